/- The walk of the law SampleNoise. -/
import Derived.Test.YtlcnepnappfjeaaDoorL12h
import Derived.Test.YtlcnepnappfjeaaDoorL12i
import Derived.Test.YtlcnepnappfjeaaDoorRef12h
namespace Go.Proofs.YtlcnepnappfjeaaDoor
open Go.ChangeShapes Go.WideShapes Go.ChangeAt Go.RowKit
set_option linter.unusedSimpArgs false
set_option linter.unusedVariables false

set_option maxRecDepth 100000 in
set_option maxHeartbeats 8000000 in
theorem noise_walk (E : Int) (v : Value) (l : List UInt8) (n : UInt8) (N : Int) (hN : N = (n.toNat : Int)) (w : World) (hr : Rd w v l) (hT : Tabs w) :
    Calls Tryd.prog 4 #[.int .i64 E, v, .int .u8 N] w fun e w' => e = .returned (.bool true) ∧ Below w.heap.size w w' := by
  obtain ⟨av, cv, rfl, -, -, -, -⟩ := id hr
  have HN : Hid (N = (n.toNat : Int)) := hN
  clear hN
  go_enter Tryd.func4, Tryd.ntmps4
  go_wp2_with fail
  refine (awake_any _ hT).mono ?_
  rintro e w1 ⟨rfl, hbw⟩
  replace hr := hr.kept hbw
  replace hT := hT.kept hbw
  by_cases h : l.length ≤ 1000
  · have d1 : decide ((1000 : Int) < (l.length : Int)) = false := decide_eq_false (by omega)
    have d2 : (l.length : Int) ≤ 1000 := by omega
    have H : Hid (l.length ≤ 900000) := by show _ ≤ _; omega
    clear h
    go_wp2_with fail
    refine (snoise_all E _ l _ hr).mono ?_
    rintro e d1 ⟨he, bn⟩
    obtain ⟨Pa, hP⟩ : ∃ P : Nat → FZ, P = (nsA E l).1 := ⟨_, rfl⟩
    obtain ⟨ea, hE⟩ : ∃ z : Int, z = (nsA E l).2 := ⟨_, rfl⟩
    rw [← hP, ← hE] at he
    have HPa : Hid _ := hP
    have HEa : Hid _ := hE
    clear hP hE
    subst he
    have hb0 := bn
    go_wp2_with (refine wpList_alloc_row (k := .i64) rfl 25 rfl (gI fun _ => 0) (alloc_poS _) (gI_ne _) (poMax _) ?_)
    intro e1 ro bo so
    rw [gI_length] at ro
    replace hb0 := stepB hb0 bo
    clear so bo
    go_wp2_with (refine wpList_store_row rfl 25 _ _ rfl (gI (fzF Pa)) rfl rfl ro (by rw [gI_length, gI_length]) (poInfoS _) ?_)
    intro g1 ra hw
    replace hb0 := hw.below _ _ bn.size hb0
    replace hr := hr.kept hb0
    replace hT := hT.kept hb0
    replace hbw := stepB hbw hb0
    clear hb0 hw bn ro
    go_wp2_with fail
    refine (noise12_all E _ l _ hr).mono ?_
    rintro e d2 ⟨he, bn⟩
    rw [← HPa.out, ← HEa.out] at he
    subst he
    have hb0 := bn
    go_wp2_with (refine wpList_alloc_row (k := .i64) rfl 24 rfl (gI fun _ => 0) (alloc_po _) (gI_ne _) (poMax _) ?_)
    intro e2 ro bo so
    rw [gI_length] at ro
    replace hb0 := stepB hb0 bo
    clear so bo
    go_wp2_with (refine wpList_store_row rfl 24 _ _ rfl (gI (fzF Pa)) rfl rfl ro (by rw [gI_length, gI_length]) (poInfo _) ?_)
    intro g2 rb hw
    replace hb0 := hw.below _ _ bn.size hb0
    replace hr := hr.kept hb0
    replace hT := hT.kept hb0
    replace ra := ra.kept hb0
    replace hbw := stepB hbw hb0
    clear hb0 hw bn ro
    go_wp2_with fail
    refine (sprf_all E _ l n _ HN.out H.out _ hr hT).mono ?_
    rintro e d3 ⟨he, bn⟩
    obtain ⟨Pb, hP⟩ : ∃ P : Nat → FZ, P = (prA E l n).1 := ⟨_, rfl⟩
    obtain ⟨eb, hE⟩ : ∃ z : Int, z = (prA E l n).2 := ⟨_, rfl⟩
    rw [← hP, ← hE] at he
    have HPb : Hid _ := hP
    have HEb : Hid _ := hE
    clear hP hE
    subst he
    have hb0 := bn
    go_wp2_with (refine wpList_alloc_row (k := .i64) rfl 25 rfl (gI fun _ => 0) (alloc_poS _) (gI_ne _) (poMax _) ?_)
    intro e3 ro bo so
    rw [gI_length] at ro
    replace hb0 := stepB hb0 bo
    clear so bo
    go_wp2_with (refine wpList_store_row rfl 25 _ _ rfl (gI (fzF Pb)) rfl rfl ro (by rw [gI_length, gI_length]) (poInfoS _) ?_)
    intro g3 rc hw
    replace hb0 := hw.below _ _ bn.size hb0
    replace hr := hr.kept hb0
    replace hT := hT.kept hb0
    replace ra := ra.kept hb0
    replace rb := rb.kept hb0
    replace hbw := stepB hbw hb0
    clear hb0 hw bn ro
    go_wp2_with fail
    refine (prf12_all E _ l n _ HN.out H.out _ hr).mono ?_
    rintro e d4 ⟨he, bn⟩
    rw [← HPb.out, ← HEb.out] at he
    subst he
    have hb0 := bn
    go_wp2_with (refine wpList_alloc_row (k := .i64) rfl 24 rfl (gI fun _ => 0) (alloc_po _) (gI_ne _) (poMax _) ?_)
    intro e4 ro bo so
    rw [gI_length] at ro
    replace hb0 := stepB hb0 bo
    clear so bo
    go_wp2_with (refine wpList_store_row rfl 24 _ _ rfl (gI (fzF Pb)) rfl rfl ro (by rw [gI_length, gI_length]) (poInfo _) ?_)
    intro g4 rd hw
    replace hb0 := hw.below _ _ bn.size hb0
    replace hr := hr.kept hb0
    replace hT := hT.kept hb0
    replace ra := ra.kept hb0
    replace rb := rb.kept hb0
    replace rc := rc.kept hb0
    replace hbw := stepB hbw hb0
    clear hb0 hw bn ro
    have qa : ∀ w, _ := eq_poS (f := Pa) (g := Pa) (fun _ _ => rfl)
    have qb : ∀ w, _ := eq_poS (f := Pb) (g := Pb) (fun _ _ => rfl)
    unfold poV at qa qb
    go_wp2_with (first
      | refine wpList_valG (exec_load_row' 25 (.tmp 8) rfl rfl ra (Below.refl _ _) _ Tryd.underlying25 rfl (poInfoS _)) (by go_simp; done) ?_
      | refine wpList_valG (exec_load_row' 24 (.tmp 10) rfl rfl rb (Below.refl _ _) _ Tryd.underlying24 rfl (poInfo _)) (by go_simp; done) ?_
      | refine wpList_valG (exec_load_row' 25 (.tmp 12) rfl rfl rc (Below.refl _ _) _ Tryd.underlying25 rfl (poInfoS _)) (by go_simp; done) ?_
      | refine wpList_valG (exec_load_row' 24 (.tmp 14) rfl rfl rd (Below.refl _ _) _ Tryd.underlying24 rfl (poInfo _)) (by go_simp; done) ?_)
    go_ret
    exact ⟨rfl, hbw⟩
  · have d1 : decide ((1000 : Int) < (l.length : Int)) = true := decide_eq_true (by omega)
    have d2 : (1000 : Int) < (l.length : Int) := by omega
    clear h
    go_wp2
    go_ret
    exact ⟨rfl, hbw⟩
end Go.Proofs.YtlcnepnappfjeaaDoor
