/- What the law KpkeBytes answers at every input: the walk. -/
import Derived.Test.YtnjdpnhkphfnbaaGreatDoorX13j
namespace Go.Proofs.YtnjdpnhkphfnbaaGreatDoor
open Go.ChangeShapes Go.WideShapes Go.ChangeAt Go.RowKit
set_option linter.unusedSimpArgs false
set_option linter.unusedVariables false

theorem any_u8 (z : Int) : ∃ x : UInt8, IntKind.u8.wrap z = (x.toNat : Int) ∧ z % 256 = (x.toNat : Int) := by
  refine ⟨UInt8.ofNat (z % 256).toNat, ?_, ?_⟩
  · rw [IntKind.wrap_u8, UInt8.toNat_ofNat']
    omega
  · rw [UInt8.toNat_ofNat']
    omega
theorem fill_facts (c : UInt8) (i X : Nat) (hi : i < 2000) (hX : X ≤ 255) : ∃ (b : Nat) (y s t : UInt8), IntKind.i64.wrap ((i : Int) * (X : Int)) = (b : Int) ∧ IntKind.u8.wrap (b : Int) = (y.toNat : Int) ∧ (b : Int) % 256 = (y.toNat : Int) ∧
    IntKind.u8.wrap ((c.toNat : Int) + (y.toNat : Int)) = (s.toNat : Int) ∧ ((c.toNat : Int) + (y.toNat : Int)) % 256 = (s.toNat : Int) ∧ bits .xor .u8 (c.toNat : Int) (y.toNat : Int) = (t.toNat : Int) := by
  have hm : i * X ≤ 2000 * 255 := Nat.mul_le_mul (by omega) hX
  obtain ⟨s, h1, h2⟩ := any_u8 ((c.toNat : Int) + ((UInt8.ofNat (i * X)).toNat : Int))
  refine ⟨i * X, UInt8.ofNat (i * X), s, c ^^^ UInt8.ofNat (i * X), ?_, ofN_wrap13 _, ofN_mod13 _, h1, h2, byte_xor _ _⟩
  rw [← Int.natCast_mul]
  exact IntWalk.i64_in _ (by omega)

set_option maxRecDepth 100000 in
set_option maxHeartbeats 8000000 in
theorem bytes_walk (c : UInt8) (C : Int) (hC : C = (c.toNat : Int)) (n : Int) (w : World) (hT : Tabs w) (hP : PwT w) :
    Calls Tryz.prog 6 #[.int .u8 C, .int .i64 n] w fun e w' => e = .returned (.bool true) ∧ Below w.heap.size w w' := by
  subst hC
  obtain ⟨ti, hti, hz0, hz1, hz2⟩ := info_parts info513
  obtain ⟨X, hX, hXa⟩ := and_small n 255 (by decide)
  obtain ⟨Y, hY, hYa⟩ := and_small n 127 (by decide)
  obtain ⟨Z, hZ, hZa⟩ := and_small n 31 (by decide)
  have hXa' : bits .and .i64 n 255 = (X : Int) := hXa
  have hYa' : bits .and .i64 n 127 = (Y : Int) := hYa
  have hZa' : bits .and .i64 n 31 = (Z : Int) := hZa
  have hZI : (Z : Int) < 32 := by omega
  have HT : Hid (Tabs w) := hT
  have HP : Hid (PwT w) := hP
  clear hT hP hXa hYa hZa
  go_enter Tryz.func6, Tryz.ntmps6
  go_wp2_with fail
  refine (awake_any _ HT.out HP.out).mono ?_
  rintro e w1 ⟨rfl, b1⟩
  have hbw := b1
  have z1 := b1.size
  clear b1
  go_wp2_with (at_make; go_must (refine wpList_make_full _ rfl _ _ 22 rfl w1.heap.size 5 ti _ 1 Tryz.underlying22 hti hz0 hz1 _ _ _ _ 1184 rfl rfl rfl rfl (by rw [hz2]; omega) (by unfold maxLen; omega) (Nat.le_refl _) ?_))
  intro w2 hown hgr
  have hN2 := New.made hown hgr
  have HLe : Hid ((List.replicate 1184 (0 : UInt8)).length = 1184) := List.length_replicate ..
  generalize List.replicate 1184 (0 : UInt8) = ek0 at hN2 HLe
  have re := hN2.rowB (by intro h; have := HLe.out; rw [h] at this; simp at this)
  replace hbw := stepB hbw hN2.2
  have z2 : w1.heap.size < w2.heap.size := re.lt
  clear hown hgr hN2
  go_wp2_with (at_make; go_must (refine wpList_make_full _ rfl _ _ 22 rfl w2.heap.size 5 ti _ 1 Tryz.underlying22 hti hz0 hz1 _ _ _ _ 1152 rfl rfl rfl rfl (by rw [hz2]; omega) (by unfold maxLen; omega) (Nat.le_refl _) ?_))
  intro w3 hown hgr
  have hN3 := New.made hown hgr
  have HLd : Hid ((List.replicate 1152 (0 : UInt8)).length = 1152) := List.length_replicate ..
  generalize List.replicate 1152 (0 : UInt8) = dk0 at hN3 HLd
  have rd := hN3.rowB (by intro h; have := HLd.out; rw [h] at this; simp at this)
  replace re := re.kept hN3.2
  replace hbw := stepB hbw hN3.2
  have z3 : w2.heap.size < w3.heap.size := rd.lt
  clear hown hgr hN3
  go_wp2_with (at_make; go_must (refine wpList_make_full _ rfl _ _ 22 rfl w3.heap.size 5 ti _ 1 Tryz.underlying22 hti hz0 hz1 _ _ _ _ 32 rfl rfl rfl rfl (by rw [hz2]; omega) (by unfold maxLen; omega) (Nat.le_refl _) ?_))
  intro w4 hown hgr
  have hN4 := New.made hown hgr
  have HLm : Hid ((List.replicate 32 (0 : UInt8)).length = 32) := List.length_replicate ..
  generalize List.replicate 32 (0 : UInt8) = m0 at hN4 HLm
  have rm := hN4.rowB (by intro h; have := HLm.out; rw [h] at this; simp at this)
  replace re := re.kept hN4.2
  replace rd := rd.kept hN4.2
  replace hbw := stepB hbw hN4.2
  clear hown hgr hN4
  go_wp2
  go_loopw [9] (fun iv wx => ∃ (i : Nat) (l : List UInt8), i ≤ 1184 ∧ iv = .int .i64 (i : Int) ∧ Hid (l.length = 1184) ∧ RowAt .u8 5 w1.heap.size 1184 (byI l) wx ∧ RowAt .u8 5 w2.heap.size 1152 (byI dk0) wx ∧ RowAt .u8 5 w3.heap.size 32 (byI m0) wx ∧ Below w.heap.size w wx) (fun iv _ => 1184 - (intOf iv).toNat)
  case atStart => exact ⟨0, ek0, by omega, rfl, HLe, re, rd, rm, hbw⟩
  case round =>
    obtain ⟨i, l, hi, rfl, HL, re1, rd1, rm1, hbx⟩ := hrel
    clear re rd rm hbw
    by_cases hlt : i < 1184
    · have hd : decide ((i : Int) < 1184) = true := decide_eq_true (by omega)
      have hiI : (i : Int) < 1184 := by omega
      obtain ⟨b, y, s, t, f1, f2, f3, f4, f5, -⟩ := fill_facts c i X (by omega) hX
      have hc := re1.cellB (j := i) (by rw [HL.out]; exact hlt)
      have hf := re1.free i
      have r5 := re1.setB i s
      have hw5 := Wrote.set w1.heap.size i wr (.int .u8 (s.toNat : Int))
      have HL5 : Hid ((l.set i s).length = 1184) := by show _ = _; rw [List.length_set]; exact HL.out
      have R5 : Hid (RowAt .u8 5 w1.heap.size 1184 (byI (l.set i s)) (wr.setCell ⟨w1.heap.size, i, none⟩ (.int .u8 (s.toNat : Int)))) := r5
      have RD5 : Hid (RowAt .u8 5 w2.heap.size 1152 (byI dk0) (wr.setCell ⟨w1.heap.size, i, none⟩ (.int .u8 (s.toNat : Int)))) := rd1.wrote hw5 (by omega)
      have RM5 : Hid (RowAt .u8 5 w3.heap.size 32 (byI m0) (wr.setCell ⟨w1.heap.size, i, none⟩ (.int .u8 (s.toNat : Int)))) := rm1.wrote hw5 (by omega)
      have HB5 : Hid _ := hw5.below _ _ z1 hbx
      clear r5 hw5 re1 rd1 rm1 hbx
      go_wp2
      go_roundw
      case rel => exact ⟨i + 1, l.set i s, by omega, by go_num, HL5, R5.out, RD5.out, RM5.out, HB5.out⟩
      case measure => simp [intOf] <;> omega
    · have hd : decide ((i : Int) < 1184) = false := decide_eq_false (by omega)
      have hiI : (1184 : Int) ≤ (i : Int) := by omega
      rename World => wy
      go_wp2
      go_loopw [10] (fun iv wx => ∃ (i : Nat) (k : List UInt8), i ≤ 1152 ∧ iv = .int .i64 (i : Int) ∧ Hid (k.length = 1152) ∧ RowAt .u8 5 w1.heap.size 1184 (byI l) wx ∧ RowAt .u8 5 w2.heap.size 1152 (byI k) wx ∧ RowAt .u8 5 w3.heap.size 32 (byI m0) wx ∧ Below w.heap.size w wx) (fun iv _ => 1152 - (intOf iv).toNat)
      case atStart => exact ⟨0, dk0, by omega, rfl, HLd, re1, rd1, rm1, hbx⟩
      case round =>
        obtain ⟨j, k, hj, rfl, HLk, re2, rd2, rm2, hby⟩ := hrel
        clear re1 rd1 rm1 hbx hd hiI
        by_cases hlt2 : j < 1152
        · have hd : decide ((j : Int) < 1152) = true := decide_eq_true (by omega)
          have hiI : (j : Int) < 1152 := by omega
          obtain ⟨b, y, s, t, f1, f2, f3, -, -, f6⟩ := fill_facts c j Y (by omega) (by omega)
          have hc := rd2.cellB (j := j) (by rw [HLk.out]; exact hlt2)
          have hf := rd2.free j
          have r5 := rd2.setB j t
          have hw5 := Wrote.set w2.heap.size j wr (.int .u8 (t.toNat : Int))
          have HL5 : Hid ((k.set j t).length = 1152) := by show _ = _; rw [List.length_set]; exact HLk.out
          have R5 : Hid (RowAt .u8 5 w2.heap.size 1152 (byI (k.set j t)) (wr.setCell ⟨w2.heap.size, j, none⟩ (.int .u8 (t.toNat : Int)))) := r5
          have RE5 : Hid (RowAt .u8 5 w1.heap.size 1184 (byI l) (wr.setCell ⟨w2.heap.size, j, none⟩ (.int .u8 (t.toNat : Int)))) := re2.wrote hw5 (by omega)
          have RM5 : Hid (RowAt .u8 5 w3.heap.size 32 (byI m0) (wr.setCell ⟨w2.heap.size, j, none⟩ (.int .u8 (t.toNat : Int)))) := rm2.wrote hw5 (by omega)
          have HB5 : Hid _ := hw5.below _ _ (by omega) hby
          clear r5 hw5 re2 rd2 rm2 hby
          go_wp2
          go_roundw
          case rel => exact ⟨j + 1, k.set j t, by omega, by go_num, HL5, RE5.out, R5.out, RM5.out, HB5.out⟩
          case measure => simp [intOf] <;> omega
        · have hd : decide ((j : Int) < 1152) = false := decide_eq_false (by omega)
          have hiI : (1152 : Int) ≤ (j : Int) := by omega
          have hc := rm2.cellB (j := Z) (by rw [HLm.out]; omega)
          have hf := rm2.free Z
          have r5 := rm2.setB Z c
          have hw5 := Wrote.set w3.heap.size Z wr (.int .u8 (c.toNat : Int))
          have hlm : (m0.set Z c).length = 32 := by rw [List.length_set]; exact HLm.out
          have re5 := re2.wrote hw5 (by omega)
          have rd5 := rd2.wrote hw5 (by omega)
          have hb5 := hw5.below _ _ (by omega) hby
          have HWS : Hid (∃ W, wr.setCell ⟨w3.heap.size, Z, none⟩ (.int .u8 (c.toNat : Int)) = W) := ⟨_, rfl⟩
          generalize m0.set Z c = mm at r5 hlm
          have x1 := re5.rdB
          have x2 := rd5.rdB
          have x3 := r5.rdB
          rw [HL.out] at x1
          rw [HLk.out] at x2
          rw [hlm] at x3
          have HLM : Hid _ := hlm
          have X1 : Hid (Rd (wr.setCell ⟨w3.heap.size, Z, none⟩ (.int .u8 (c.toNat : Int))) (.slice (some ⟨w1.heap.size, 0, none⟩) 1184 1184) l) := x1
          have X2 : Hid (Rd (wr.setCell ⟨w3.heap.size, Z, none⟩ (.int .u8 (c.toNat : Int))) (.slice (some ⟨w2.heap.size, 0, none⟩) 1152 1152) k) := x2
          have X3 : Hid (Rd (wr.setCell ⟨w3.heap.size, Z, none⟩ (.int .u8 (c.toNat : Int))) (.slice (some ⟨w3.heap.size, 0, none⟩) 32 32) mm) := x3
          have HB5 : Hid (Below w.heap.size w (wr.setCell ⟨w3.heap.size, Z, none⟩ (.int .u8 (c.toNat : Int)))) := hb5
          have cE := convS X1.out
          clear r5 hw5 re2 rd2 rm2 hby re5 rd5 hb5 x1 x2 x3 hlm HWS
          go_wp2_with fail
          refine (kenc_any _ _ _ l mm mm _ X1.out X3.out X3.out HL.out HLM.out HLM.out (HT.out.kept HB5.out) (HP.out.kept HB5.out)).mono ?_
          rintro e w6 ⟨x, rfl, hN6⟩
          have b6 := hN6.2
          have hx := hN6.rd
          have hbw := stepB HB5.out b6
          clear hN6 cE hc hf
          go_wp2_with fail
          refine (enc13_any _ _ _ l mm mm _ (Rd.kept X1.out b6) (Rd.kept X3.out b6) (Rd.kept X3.out b6) HL.out HLM.out HLM.out).mono ?_
          rintro e w7 ⟨y, rfl, hN7⟩
          replace hx := Rd.kept hx hN7.2
          have hy := hN7.rd
          replace b6 := stepB b6 hN7.2
          replace hbw := stepB hbw hN7.2
          have HCl : Hid _ := ciL_length l mm mm
          generalize ciL l mm mm = cl at hx hy HCl
          have c1 := convS hx
          have c2 := convS hy
          have HX : Hid (Rd w7 x cl) := hx
          have HY : Hid (Rd w7 y cl) := hy
          clear hN7 hx hy
          go_wp2_with fail
          refine (kdec_any _ _ k cl _ (Rd.kept X2.out b6) HX.out HLk.out HCl.out (HP.out.kept hbw)).mono ?_
          rintro e w8 ⟨z, rfl, hN8⟩
          have hz := hN8.rd
          have b8 := stepB b6 hN8.2
          replace hbw := stepB hbw hN8.2
          have HY8 : Hid (Rd w8 y cl) := Rd.kept HY.out hN8.2
          clear hN8 c1 c2
          go_wp2_with fail
          refine (dec13_any _ _ k cl _ (Rd.kept X2.out b8) HY8.out HLk.out HCl.out).mono ?_
          rintro e w9 ⟨v, rfl, hN9⟩
          replace hz := Rd.kept hz hN9.2
          have hv := hN9.rd
          have b9 := stepB b8 hN9.2
          replace hbw := stepB hbw hN9.2
          generalize meL k cl = ml at hz hv
          have c3 := convS hz
          have c4 := convS hv
          have c5 := convS (Rd.kept X1.out b9)
          clear hN9 hz hv
          go_wp2
          go_ret
          exact ⟨rfl, hbw⟩
end Go.Proofs.YtnjdpnhkphfnbaaGreatDoor
