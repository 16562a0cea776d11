/- What the document's own product, small number, sameness and power are: contracts of the reference of layer 5. -/
import Derived.Test.YthokfcmnijpkhaaRef05d
namespace Go.Proofs.Ythokfcmnijpkhaa
open Go.ChangeShapes Go.WideShapes Go.ChangeAt Go.RowKit
set_option linter.unusedSimpArgs false
set_option linter.unusedVariables false

set_option maxRecDepth 100000 in
set_option maxHeartbeats 2000000 in
theorem mulR_any (va vb : Value) (x y : Nat) (w : World) (ha : RdI .i64 w va (fdL x)) (hb : RdI .i64 w vb (fdL y)) :
    Calls Try.prog 25 #[va, vb] w fun e w' => ∃ r, e = .returned r ∧ RdI .i64 w' r (fdL (x * y)) ∧ Below w.heap.size w w' := by
  obtain ⟨ti, hti, hz0, hz1, hz2⟩ := info_parts infoI
  obtain ⟨ba, oa, ca, rfl, -, hla, hca⟩ := fdL_cells ha
  obtain ⟨bb, ob, cb, rfl, -, hlb, hcb⟩ := fdL_cells hb
  have HX : Hid (x % pN < 256 ^ 32) := rest_lt x
  have HY : Hid (y % pN < 256 ^ 32) := rest_lt y
  have HF : Hid (x % pN * (y % pN) % pN = x * y % pN) := (Nat.mul_mod x y pN).symm
  generalize x % pN = X at hca HX HF
  generalize y % pN = Y at hcb HY HF
  have HA : Hid _ := hca
  have HB : Hid _ := hcb
  clear ha hb hca hcb
  go_enter Try.func25, Try.ntmps25
  go_wp2_with (at_make; go_must (refine wpList_make_full _ rfl _ _ 41 rfl w.heap.size 3 ti _ 1 Try.underlying41 hti hz0 hz1 _ _ _ _ 64 rfl rfl rfl rfl (by rw [hz2]; omega) (by unfold maxLen; omega) (Nat.le_refl _) ?_))
  intro w1 hown hgr
  have hN1 := NewI.made hown hgr
  rw [← nI_zeros] at hN1
  clear hown hgr
  go_wp2
  go_loopw [6] (fun iv wx => ∃ (i : Nat) (o : List Nat), i ≤ 32 ∧ iv = .int .i64 (i : Int) ∧ Hid (o.length = 64) ∧ Hid (∀ t ∈ o, t ≤ i * 32 * 65025) ∧ Hid (dv o = X % 256 ^ i * Y) ∧ NewI .i64 3 w (.slice (some ⟨w.heap.size, 0, none⟩) 64 64) (nI o) wx) (fun iv _ => 32 - (intOf iv).toNat)
  case atStart => exact ⟨0, List.replicate 64 0, by omega, rfl, by show _ = _; simp, (fun t h => by rw [List.eq_of_mem_replicate h]; omega), (by show _ = _; rw [dv_zeros, Nat.pow_zero, Nat.mod_one, Nat.zero_mul]), hN1⟩
  case round =>
    obtain ⟨i, o, hi, rfl, HL, HT, HD, hN⟩ := hrel
    clear hN1
    by_cases hl : i < 32
    · have hd : decide ((i : Int) < 32) = true := decide_eq_true (by omega)
      have hiI : (i : Int) < 32 := by omega
      go_wp2
      go_loopw [7] (fun jv wx => ∃ (j : Nat) (o : List Nat), j ≤ 32 ∧ jv = .int .i64 (j : Int) ∧ Hid (o.length = 64) ∧ Hid (∀ t ∈ o, t ≤ (i * 32 + j) * 65025) ∧ Hid (dv o = X % 256 ^ i * Y + 256 ^ i * dg X i * (Y % 256 ^ j)) ∧ NewI .i64 3 w (.slice (some ⟨w.heap.size, 0, none⟩) 64 64) (nI o) wx) (fun jv _ => 32 - (intOf jv).toNat)
      case atStart => exact ⟨0, o, by omega, rfl, HL, HT, (by show _ = _; rw [HD.out, Nat.pow_zero, Nat.mod_one, Nat.mul_zero, Nat.add_zero]), hN⟩
      case round =>
        obtain ⟨j, o2, hj, rfl, HL2, HT2, HD2, hN2⟩ := hrel
        clear hN HD HT HL
        by_cases hlj : j < 32
        · have hdj : decide ((j : Int) < 32) = true := decide_eq_true (by omega)
          have hjI : (j : Int) < 32 := by omega
          have hb2 := hN2.2
          have c1 : wr.cell? ⟨ba, oa + i, none⟩ = some (.int .i64 ((dg X i : Nat) : Int)) := by
            rw [hb2.cell (p := ⟨ba, oa + i, none⟩) hla]
            exact HA.out i hl
          have c2 : wr.cell? ⟨bb, ob + j, none⟩ = some (.int .i64 ((dg Y j : Nat) : Int)) := by
            rw [hb2.cell (p := ⟨bb, ob + j, none⟩) hlb]
            exact HB.out j hlj
          obtain ⟨g, c, ev, -, -, k1, k2, k3⟩ := hN2.at (j := i + j) (by rw [nI_length, HL2.out]; omega)
          simp only [Value.slice.injEq, Option.some.injEq, Addr.mk.injEq, and_true, true_and] at ev
          obtain ⟨rfl, -, rfl⟩ := ev
          rw [nI_get] at k1
          have hzb := getD_le HT2.out (i + j)
          have h1 := dg_lt X i
          have h2 := dg_lt Y j
          have hpq : dg X i * dg Y j ≤ 65025 := Nat.le_trans (Nat.mul_le_mul (show dg X i ≤ 255 by omega) (show dg Y j ≤ 255 by omega)) (by omega)
          have k4 := k3 ((o2.getD (i + j) 0 + dg X i * dg Y j : Nat) : Int)
          rw [nI_set] at k4
          have HDN : Hid (dv (o2.set (i + j) (o2.getD (i + j) 0 + dg X i * dg Y j)) = X % 256 ^ i * Y + 256 ^ i * dg X i * (Y % 256 ^ (j + 1))) := by
            show _ = _
            rw [dv_set _ _ _ (by rw [HL2.out]; omega)]
            exact mul_step X Y i j 0 _ HD2.out
          have HTN : Hid (∀ t ∈ o2.set (i + j) (o2.getD (i + j) 0 + dg X i * dg Y j), t ≤ (i * 32 + (j + 1)) * 65025) := by
            intro t htm
            rcases List.mem_or_eq_of_mem_set htm with h | h
            · exact Nat.le_trans (HT2.out t h) (Nat.mul_le_mul_right _ (by omega))
            · rw [h, show i * 32 + (j + 1) = (i * 32 + j) + 1 by omega, Nat.add_mul, Nat.one_mul]
              exact Nat.add_le_add hzb hpq
          have HLN : Hid ((o2.set (i + j) (o2.getD (i + j) 0 + dg X i * dg Y j)).length = 64) := by show _ = _; rw [List.length_set]; exact HL2.out
          generalize ho3 : o2.set (i + j) (o2.getD (i + j) 0 + dg X i * dg Y j) = o3 at k4 HDN HTN HLN
          have hzz : o2.getD (i + j) 0 ≤ 100000000 := Nat.le_trans hzb (Nat.le_trans (Nat.mul_le_mul_right 65025 (show i * 32 + j ≤ 1024 by omega)) (by omega))
          have HK : Hid _ := k4
          generalize o2.getD (i + j) 0 = z at k1 HK hzz
          obtain ⟨m, hm⟩ : ∃ m : Nat, m = dg X i * dg Y j := ⟨_, rfl⟩
          have em : IntKind.i64.wrap (((dg X i : Nat) : Int) * ((dg Y j : Nat) : Int)) = (m : Int) := by
            rw [← Int.natCast_mul, ← hm]
            exact IntWalk.i64_in _ (by omega)
          rw [← hm] at HK hpq
          have es : IntKind.i64.wrap ((z : Int) + (m : Int)) = ((z + m : Nat) : Int) := by rw [IntWalk.i64_in _ (by omega)]; omega
          have ei : IntKind.i64.wrap ((i : Int) + (j : Int)) = (i : Int) + (j : Int) := IntWalk.i64_in _ (by omega)
          have ein : ((i : Int) + (j : Int)).toNat = i + j := by omega
          have eil : (i : Int) + (j : Int) < 64 := by omega
          have ei0 : (0 : Int) ≤ (i : Int) + (j : Int) := by omega
          clear hN2 k3 k4 h1 h2 hm ho3 hzb HT2 HL2 HD2
          go_wp2_with fail
          refine wpE_begin 17 (by kernel_rfl) ?_
          refine wpE_take (i := 0) (oi := { dst := some 17, op := Op.move (Operand.tmp 5), type := 41, pos := "ref.go:121", after := #[], guard := none }) (v := ?_) rfl (by decide) (by kernel_rfl) (by kernel_rfl) (by kernel_rfl) (by kernel_rfl) (by rfl) ?_ ?_
          rotate_left
          · intro W hW; first | (go_simp; done) | (go_simp; with_reducible rfl)
          try simp only [Act.put, List.setIfInBounds_toArray, List.set_cons_zero, List.set_cons_succ]
          refine wpE_take (i := 1) (oi := { dst := some 18, op := Op.move (Operand.tmp 6), type := 3, pos := "ref.go:121", after := #[], guard := none }) (v := ?_) rfl (by decide) (by kernel_rfl) (by kernel_rfl) (by kernel_rfl) (by kernel_rfl) (by rfl) ?_ ?_
          rotate_left
          · intro W hW; first | (go_simp; done) | (go_simp; with_reducible rfl)
          try simp only [Act.put, List.setIfInBounds_toArray, List.set_cons_zero, List.set_cons_succ]
          refine wpE_take (i := 2) (oi := { dst := some 19, op := Op.move (Operand.tmp 7), type := 3, pos := "ref.go:121", after := #[], guard := none }) (v := ?_) rfl (by decide) (by kernel_rfl) (by kernel_rfl) (by kernel_rfl) (by kernel_rfl) (by rfl) ?_ ?_
          rotate_left
          · intro W hW; first | (go_simp; done) | (go_simp; with_reducible rfl)
          try simp only [Act.put, List.setIfInBounds_toArray, List.set_cons_zero, List.set_cons_succ]
          refine wpE_take (i := 3) (oi := { dst := some 20, op := Op.binOp BinOp.add 3 (Operand.tmp 18) (Operand.tmp 19) 3, type := 3, pos := "ref.go:121", after := #[{ on := 1, ground := Ground.data }, { on := 2, ground := Ground.data }], guard := none }) (v := ?_) rfl (by decide) (by kernel_rfl) (by kernel_rfl) (by kernel_rfl) (by kernel_rfl) (by rfl) ?_ ?_
          rotate_left
          · intro W hW; first | (go_simp; done) | (go_simp; with_reducible rfl)
          try simp only [Act.put, List.setIfInBounds_toArray, List.set_cons_zero, List.set_cons_succ]
          refine wpE_take (i := 4) (oi := { dst := some 21, op := Op.indexAddr 41 (Operand.tmp 17) (Operand.tmp 20), type := 0, pos := "ref.go:121", after := #[{ on := 0, ground := Ground.data }, { on := 3, ground := Ground.data }], guard := none }) (v := ?_) rfl (by decide) (by kernel_rfl) (by kernel_rfl) (by kernel_rfl) (by kernel_rfl) (by rfl) ?_ ?_
          rotate_left
          · intro W hW; first | (go_simp; done) | (go_simp; with_reducible rfl)
          try simp only [Act.put, List.setIfInBounds_toArray, List.set_cons_zero, List.set_cons_succ]
          refine wpE_take (i := 5) (oi := { dst := some 22, op := Op.load 3 (Operand.tmp 21), type := 3, pos := "ref.go:121", after := #[{ on := 4, ground := Ground.data }], guard := none }) (v := ?_) rfl (by decide) (by kernel_rfl) (by kernel_rfl) (by kernel_rfl) (by kernel_rfl) (by rfl) ?_ ?_
          rotate_left
          · intro W hW; have hcw := cellU k1 hW; first | (go_simp; done) | (go_simp; with_reducible rfl)
          try simp only [Act.put, List.setIfInBounds_toArray, List.set_cons_zero, List.set_cons_succ]
          refine wpE_take (i := 6) (oi := { dst := some 23, op := Op.move (Operand.tmp 0), type := 41, pos := "ref.go:121", after := #[], guard := none }) (v := ?_) rfl (by decide) (by kernel_rfl) (by kernel_rfl) (by kernel_rfl) (by kernel_rfl) (by rfl) ?_ ?_
          rotate_left
          · intro W hW; first | (go_simp; done) | (go_simp; with_reducible rfl)
          try simp only [Act.put, List.setIfInBounds_toArray, List.set_cons_zero, List.set_cons_succ]
          refine wpE_take (i := 7) (oi := { dst := some 24, op := Op.move (Operand.tmp 6), type := 3, pos := "ref.go:121", after := #[], guard := none }) (v := ?_) rfl (by decide) (by kernel_rfl) (by kernel_rfl) (by kernel_rfl) (by kernel_rfl) (by rfl) ?_ ?_
          rotate_left
          · intro W hW; first | (go_simp; done) | (go_simp; with_reducible rfl)
          try simp only [Act.put, List.setIfInBounds_toArray, List.set_cons_zero, List.set_cons_succ]
          refine wpE_take (i := 8) (oi := { dst := some 25, op := Op.indexAddr 41 (Operand.tmp 23) (Operand.tmp 24), type := 0, pos := "ref.go:121", after := #[{ on := 6, ground := Ground.data }, { on := 7, ground := Ground.data }], guard := none }) (v := ?_) rfl (by decide) (by kernel_rfl) (by kernel_rfl) (by kernel_rfl) (by kernel_rfl) (by rfl) ?_ ?_
          rotate_left
          · intro W hW; first | (go_simp; done) | (go_simp; with_reducible rfl)
          try simp only [Act.put, List.setIfInBounds_toArray, List.set_cons_zero, List.set_cons_succ]
          refine wpE_take (i := 9) (oi := { dst := some 26, op := Op.load 3 (Operand.tmp 25), type := 3, pos := "ref.go:121", after := #[{ on := 8, ground := Ground.data }], guard := none }) (v := ?_) rfl (by decide) (by kernel_rfl) (by kernel_rfl) (by kernel_rfl) (by kernel_rfl) (by rfl) ?_ ?_
          rotate_left
          · intro W hW; have hcw := cellU c1 hW; first | (go_simp; done) | (go_simp; with_reducible rfl)
          try simp only [Act.put, List.setIfInBounds_toArray, List.set_cons_zero, List.set_cons_succ]
          refine wpE_take (i := 10) (oi := { dst := some 27, op := Op.move (Operand.tmp 1), type := 41, pos := "ref.go:121", after := #[], guard := none }) (v := ?_) rfl (by decide) (by kernel_rfl) (by kernel_rfl) (by kernel_rfl) (by kernel_rfl) (by rfl) ?_ ?_
          rotate_left
          · intro W hW; first | (go_simp; done) | (go_simp; with_reducible rfl)
          try simp only [Act.put, List.setIfInBounds_toArray, List.set_cons_zero, List.set_cons_succ]
          refine wpE_take (i := 11) (oi := { dst := some 28, op := Op.move (Operand.tmp 7), type := 3, pos := "ref.go:121", after := #[], guard := none }) (v := ?_) rfl (by decide) (by kernel_rfl) (by kernel_rfl) (by kernel_rfl) (by kernel_rfl) (by rfl) ?_ ?_
          rotate_left
          · intro W hW; first | (go_simp; done) | (go_simp; with_reducible rfl)
          try simp only [Act.put, List.setIfInBounds_toArray, List.set_cons_zero, List.set_cons_succ]
          refine wpE_take (i := 12) (oi := { dst := some 29, op := Op.indexAddr 41 (Operand.tmp 27) (Operand.tmp 28), type := 0, pos := "ref.go:121", after := #[{ on := 10, ground := Ground.data }, { on := 11, ground := Ground.data }], guard := none }) (v := ?_) rfl (by decide) (by kernel_rfl) (by kernel_rfl) (by kernel_rfl) (by kernel_rfl) (by rfl) ?_ ?_
          rotate_left
          · intro W hW; first | (go_simp; done) | (go_simp; with_reducible rfl)
          try simp only [Act.put, List.setIfInBounds_toArray, List.set_cons_zero, List.set_cons_succ]
          refine wpE_take (i := 13) (oi := { dst := some 30, op := Op.load 3 (Operand.tmp 29), type := 3, pos := "ref.go:121", after := #[{ on := 12, ground := Ground.data }], guard := none }) (v := ?_) rfl (by decide) (by kernel_rfl) (by kernel_rfl) (by kernel_rfl) (by kernel_rfl) (by rfl) ?_ ?_
          rotate_left
          · intro W hW; have hcw := cellU c2 hW; first | (go_simp; done) | (go_simp; with_reducible rfl)
          try simp only [Act.put, List.setIfInBounds_toArray, List.set_cons_zero, List.set_cons_succ]
          refine wpE_take (i := 14) (oi := { dst := some 31, op := Op.binOp BinOp.mul 3 (Operand.tmp 26) (Operand.tmp 30) 3, type := 3, pos := "ref.go:121", after := #[{ on := 9, ground := Ground.data }, { on := 13, ground := Ground.data }], guard := none }) (v := ?_) rfl (by decide) (by kernel_rfl) (by kernel_rfl) (by kernel_rfl) (by kernel_rfl) (by rfl) ?_ ?_
          rotate_left
          · intro W hW; first | (go_simp; done) | (go_simp; with_reducible rfl)
          try simp only [Act.put, List.setIfInBounds_toArray, List.set_cons_zero, List.set_cons_succ]
          refine wpE_take (i := 15) (oi := { dst := some 32, op := Op.binOp BinOp.add 3 (Operand.tmp 22) (Operand.tmp 31) 3, type := 3, pos := "ref.go:121", after := #[{ on := 5, ground := Ground.data }, { on := 14, ground := Ground.data }], guard := none }) (v := ?_) rfl (by decide) (by kernel_rfl) (by kernel_rfl) (by kernel_rfl) (by kernel_rfl) (by rfl) ?_ ?_
          rotate_left
          · intro W hW; first | (go_simp; done) | (go_simp; with_reducible rfl)
          try simp only [Act.put, List.setIfInBounds_toArray, List.set_cons_zero, List.set_cons_succ]
          refine wpE_take (i := 16) (oi := { dst := some 33, op := Op.indexAddr 41 (Operand.tmp 17) (Operand.tmp 20), type := 0, pos := "ref.go:121", after := #[{ on := 0, ground := Ground.data }, { on := 3, ground := Ground.data }, { on := 0, ground := Ground.phase }, { on := 1, ground := Ground.phase }, { on := 2, ground := Ground.phase }, { on := 3, ground := Ground.phase }, { on := 4, ground := Ground.phase }, { on := 5, ground := Ground.phase }, { on := 6, ground := Ground.phase }, { on := 7, ground := Ground.phase }, { on := 8, ground := Ground.phase }, { on := 9, ground := Ground.phase }, { on := 10, ground := Ground.phase }, { on := 11, ground := Ground.phase }, { on := 12, ground := Ground.phase }, { on := 13, ground := Ground.phase }, { on := 14, ground := Ground.phase }, { on := 15, ground := Ground.phase }], guard := none }) (v := ?_) rfl (by decide) (by kernel_rfl) (by kernel_rfl) (by kernel_rfl) (by kernel_rfl) (by rfl) ?_ ?_
          rotate_left
          · intro W hW; first | (go_simp; done) | (go_simp; with_reducible rfl)
          try simp only [Act.put, List.setIfInBounds_toArray, List.set_cons_zero, List.set_cons_succ]
          refine wpE_last (o := { dst := none, op := Op.store 3 (Operand.tmp 33) (Operand.tmp 32), type := 0, pos := "ref.go:121", after := #[{ on := 16, ground := Ground.data }, { on := 15, ground := Ground.data }, { on := 0, ground := Ground.phase }, { on := 1, ground := Ground.phase }, { on := 2, ground := Ground.phase }, { on := 3, ground := Ground.phase }, { on := 4, ground := Ground.phase }, { on := 5, ground := Ground.phase }, { on := 6, ground := Ground.phase }, { on := 7, ground := Ground.phase }, { on := 8, ground := Ground.phase }, { on := 9, ground := Ground.phase }, { on := 10, ground := Ground.phase }, { on := 11, ground := Ground.phase }, { on := 12, ground := Ground.phase }, { on := 13, ground := Ground.phase }, { on := 14, ground := Ground.phase }, { on := 15, ground := Ground.phase }], guard := none }) (by kernel_rfl) (by kernel_rfl) rfl (by rfl) fun K hK => ?_
          go_simp
          refine hK.out _ _ ?_
          clear hK K
          try simp only [Act.put, List.setIfInBounds_toArray, List.set_cons_zero, List.set_cons_succ]
          go_wp2
          go_roundw
          case rel => exact ⟨j + 1, o3, by omega, by go_num, HLN, HTN, HDN, NewI.drew HK.out⟩
          case measure => simp [intOf] <;> omega
        · have hje : j = 32 := by omega
          have hdj : decide ((j : Int) < 32) = false := decide_eq_false (by omega)
          have hjI : (32 : Int) ≤ (j : Int) := by omega
          have HDN : Hid (dv o2 = X % 256 ^ (i + 1) * Y) := by
            have h := HD2.out
            rw [hje] at h
            exact mul_row X Y i _ HY.out h
          have HTN : Hid (∀ t ∈ o2, t ≤ (i + 1) * 32 * 65025) := fun t htm => Nat.le_trans (HT2.out t htm) (Nat.mul_le_mul_right _ (by omega))
          have HK : Hid _ := hN2
          clear hje HD2 HT2 hN2
          go_wp2
          go_roundw
          case rel => exact ⟨i + 1, o2, by omega, by go_num, HL2, HTN, HDN, HK.out⟩
          case measure => simp [intOf] <;> omega
    · have hie : i = 32 := by omega
      subst hie
      have hR := hN.rd
      have hb2 := hN.2
      have HV : Hid (dv o % pN = x * y % pN) := by
        show _ = _
        rw [HD.out, Nat.mod_eq_of_lt HX.out]
        exact HF.out
      have HBd : Hid (∀ t ∈ o, t ≤ 1099511627776) := fun t htm => Nat.le_trans (HT.out t htm) (by omega)
      clear hN HD HT
      go_wp2_with fail
      refine (modR_any _ o HBd.out (by rw [HL.out]; omega) _ hR).mono ?_
      rintro e w3 ⟨r3, rfl, hR3, hB3⟩
      go_wp2
      go_ret
      refine ⟨_, rfl, ?_, stepB hb2 hB3⟩
      unfold fdL at hR3 ⊢
      rwa [HV.out] at hR3

set_option maxHeartbeats 400000 in
theorem smallR_any (n : Nat) (hn : n ≤ 1099511627776) (N : Int) (hN : N = (n : Int)) (w : World) :
    Calls Try.prog 22 #[.int .i64 N] w fun e w' => ∃ r, e = .returned r ∧ RdI .i64 w' r (fdL n) ∧ Below w.heap.size w w' := by
  subst hN
  have hL : RdI .i64 (w.alloc (.cells #[.int .i64 (n : Int)] 3)) (.slice (some ⟨w.heap.size, 0, none⟩) 1 1) (nI [n]) := RdI.lit1 _
  have g := growB (w := w) (.cells #[.int .i64 (n : Int)] 3)
  have HB : Hid (∀ t ∈ [n], t ≤ 1099511627776) := fun t h => by rw [List.mem_singleton.1 h]; exact hn
  go_enter Try.func22, Try.ntmps22
  go_wp2_with fail
  refine (modR_any _ [n] HB.out (by simp) _ hL).mono ?_
  rintro e w3 ⟨r3, rfl, hR3, hB3⟩
  have e1 : dv [n] = n := by simp [dv]
  rw [e1] at hR3
  go_wp2
  go_ret
  exact ⟨_, rfl, hR3, stepB g hB3⟩

theorem below_drewF {B : Nat} {w wr : World} (h : Below B w wr) : ∀ n, Below B w (wr.drewN n)
  | 0 => h
  | n + 1 => (below_drewF h n).drew
theorem rest_same (x y : Nat) : (∀ i, i < 32 → dg (x % pN) i = dg (y % pN) i) ↔ x % pN = y % pN := by
  constructor
  · intro h
    rw [← rest_dv x, ← rest_dv y]
    congr 1
    unfold dgN
    exact List.map_congr_left fun i hi => h i (List.mem_range.1 hi)
  · intro h i _
    rw [h]

theorem fdL_congr {x y : Nat} (h : x % pN = y % pN) : fdL x = fdL y := by
  unfold fdL
  rw [h]

set_option maxRecDepth 100000 in
set_option maxHeartbeats 1000000 in
theorem powerR_any (va : Value) (x : Nat) (w : World) (ha : RdI .i64 w va (fdL x)) :
    Calls Try.prog 27 #[va] w fun e w' => ∃ r, e = .returned r ∧ RdI .i64 w' r (fdL (x ^ exN)) ∧ Below w.heap.size w w' := by
  have HA : Hid _ := ha
  clear ha
  go_enter Try.func27, Try.ntmps27
  go_wp2_with fail
  refine (smallR_any 1 (by omega) 1 rfl _).mono ?_
  rintro e w1 ⟨r1, rfl, hR1, hB1⟩
  go_wp2
  go_loopw [3, 4] (fun v iv wx => ∃ k : Nat, k ≤ 255 ∧ iv = .int .i64 ((k : Int) - 1) ∧ RdI .i64 wx v (fdL (x ^ (exN / 2 ^ k))) ∧ Below w.heap.size w wx) (fun _ iv _ => (intOf iv + 1).toNat)
  case atStart => exact ⟨255, by omega, rfl, (by rw [ex_top, Nat.pow_zero]; exact hR1), hB1⟩
  case round =>
    obtain ⟨k, hk, rfl, hR, hb⟩ := hrel
    clear hR1 hB1
    by_cases hl : 0 < k
    · obtain ⟨i, hi⟩ : ∃ i : Nat, k = i + 1 := ⟨k - 1, by omega⟩
      subst hi
      have ei : ((i + 1 : Nat) : Int) - 1 = (i : Int) := by omega
      rw [ei]
      have hd : decide ((0 : Int) ≤ (i : Int)) = true := decide_eq_true (by omega)
      have HP : Hid _ := pow_step x i (by omega)
      clear hl ei
      go_wp2_with fail
      refine (mulR_any _ _ _ _ _ hR hR).mono ?_
      rintro e w2 ⟨r2, rfl, hR2, hB2⟩
      have hb2 := stepB hb hB2
      have ha2 := RdI.kept HA.out hb2
      clear hR hB2 hb
      by_cases hi2 : i = 2
      · rw [if_pos (.inl hi2)] at HP
        rw [HP.out] at hR2
        clear HP
        subst hi2
        go_wp2
        go_roundw
        case rel => exact ⟨2, by omega, by go_num, hR2, hb2⟩
        case measure => simp [intOf] <;> omega
      · by_cases hi4 : i = 4
        · rw [if_pos (.inr hi4)] at HP
          rw [HP.out] at hR2
          clear HP hi2
          subst hi4
          go_wp2
          go_roundw
          case rel => exact ⟨4, by omega, by go_num, hR2, hb2⟩
          case measure => simp [intOf] <;> omega
        · rw [if_neg (by omega)] at HP
          have n2 : ((i : Int) != 2) = true := by simp; omega
          have n4 : ((i : Int) != 4) = true := by simp; omega
          have H2 : Hid (i ≠ 2) := hi2
          have H4 : Hid (i ≠ 4) := hi4
          clear hi2 hi4
          go_wp2_with fail
          refine (mulR_any _ _ _ _ _ hR2 ha2).mono ?_
          rintro e w3 ⟨r3, rfl, hR3, hB3⟩
          rw [HP.out] at hR3
          have hb3 := stepB hb2 hB3
          clear hR2 hB3 hb2 ha2 HP
          go_wp2
          go_roundw
          case rel => exact ⟨i, by omega, by go_num, hR3, hb3⟩
          case measure => simp [intOf] <;> omega
    · have hk0 : k = 0 := by omega
      subst hk0
      rw [Nat.pow_zero, Nat.div_one] at hR
      go_wp2
      go_ret
      exact ⟨_, rfl, hR, hb⟩
end Go.Proofs.Ythokfcmnijpkhaa
