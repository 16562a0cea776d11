/- What the law CurveAgrees answers at every input: the walk. -/
import Derived.Test.YthokfcmnijpkhaaV06h
namespace Go.Proofs.Ythokfcmnijpkhaa
open Go.ChangeShapes Go.WideShapes Go.ChangeAt Go.RowKit
set_option linter.unusedSimpArgs false
set_option linter.unusedVariables false

theorem max32 {l : List UInt8} (h : l.length = 32) : (byI l).length ≤ maxLen := by
  rw [byI_length, h]
  decide
theorem ne32 {l : List UInt8} (h : l.length = 32) : byI l ≠ [] := byI_ne (by rw [← List.length_pos_iff]; omega)
theorem agree_bytes {a b : List UInt8} (ha : a.length = 32) (hb : b.length = 32) : scN a (enL (scN b key9)) = scN b (enL (scN a key9)) :=
  scN_agree (bit_top a ha) (bit_top b hb) (bit_low a ha 0 (by decide)) (bit_low b hb 0 (by decide)) (by rw [decN_enL, Nat.mod_mod]) (by rw [decN_enL, Nat.mod_mod])

set_option maxRecDepth 100000 in
set_option maxHeartbeats 4000000 in
theorem agrees_walk (Aa : Array Value) (a : List UInt8) (ha : a.length = 32) (hAa : Aa = ((byI a).map (Value.int .u8)).toArray) (Ba : Array Value) (b : List UInt8) (hb : b.length = 32) (hBa : Ba = ((byI b).map (Value.int .u8)).toArray) (w : World) :
    Calls Try.prog 6 #[.agg Aa, .agg Ba] w fun e w' => e = .returned (.bool true) ∧ Below w.heap.size w w' := by
  have HA : Hid (a.length = 32) := ha
  have HB : Hid (b.length = 32) := hb
  go_enter Try.func6, Try.ntmps6
  go_wp2_with (refine wpList_box_row (k := .u8) rfl 31 _ rfl (byI a) (by rw [← hAa]; rfl) (ne32 ha) (max32 ha) ?_)
  intro w1 ra bn sn
  rw [byI_length, ha] at ra
  have hbw := bn
  clear bn sn hAa ha
  go_wp2_with (refine wpList_box_row (k := .u8) rfl 31 _ rfl (byI b) (by rw [← hBa]; rfl) (ne32 hb) (max32 hb) ?_)
  intro w2 rb bn sn
  rw [byI_length, hb] at rb
  replace ra := ra.kept bn
  replace hbw := stepB hbw bn
  clear bn sn hBa hb
  go_wp2_with fail
  refine (awake_any _).mono ?_
  rintro e wa ⟨rfl, bn⟩
  replace ra := ra.kept bn
  replace rb := rb.kept bn
  replace hbw := stepB hbw bn
  clear bn
  have ka := ra.rdB
  have kb := rb.rdB
  rw [HA.out] at ka
  rw [HB.out] at kb
  clear ra rb
  go_wp2_with fail
  refine (public_any _ a _ ka).mono ?_
  rintro e w3 ⟨hp, -⟩
  obtain ⟨vp, rfl, hN⟩ := hp HA.out
  replace ka := ka.kept hN.2
  replace kb := kb.kept hN.2
  replace hbw := stepB hbw hN.2
  have kp := hN.rd
  clear hN hp
  go_wp2_with fail
  refine (public_any _ b _ kb).mono ?_
  rintro e w4 ⟨hp, -⟩
  obtain ⟨vq, rfl, hN⟩ := hp HB.out
  replace ka := ka.kept hN.2
  replace kb := kb.kept hN.2
  replace kp := kp.kept hN.2
  replace hbw := stepB hbw hN.2
  have kq := hN.rd
  clear hN hp
  go_wp2_with fail
  refine (scalar_any _ _ a _ _ ka kq HA.out (enL_length _)).mono ?_
  rintro e w5 ⟨vx, rfl, hN⟩
  replace kb := kb.kept hN.2
  replace kp := kp.kept hN.2
  replace hbw := stepB hbw hN.2
  have kx := hN.rd
  clear hN ka kq
  rw [agree_bytes HA.out HB.out] at kx
  go_wp2_with fail
  refine (scalar_any _ _ b _ _ kb kp HB.out (enL_length _)).mono ?_
  rintro e w6 ⟨vy, rfl, hN⟩
  replace kx := kx.kept hN.2
  replace hbw := stepB hbw hN.2
  have ky := hN.rd
  clear hN kb kp
  generalize enL (scN b (enL (scN a key9))) = L at kx ky
  have hcv1 := conv_any kx
  have hcv2 := conv_any ky
  clear kx ky
  go_wp2
  go_ret
  exact ⟨rfl, hbw⟩
end Go.Proofs.Ythokfcmnijpkhaa
