/- What the law CurvePublic answers at every input: the walk. -/
import Derived.Test.YthokfcmnijpkhaaW6Agrees
import Derived.Test.YthokfcmnijpkhaaRef06c
namespace Go.Proofs.Ythokfcmnijpkhaa
open Go.ChangeShapes Go.WideShapes Go.ChangeAt Go.RowKit
set_option linter.unusedSimpArgs false
set_option linter.unusedVariables false

set_option maxRecDepth 100000 in
set_option maxHeartbeats 4000000 in
theorem publics_walk (Ka : Array Value) (k : List UInt8) (hk : k.length = 32) (hKa : Ka = ((byI k).map (Value.int .u8)).toArray) (w : World) :
    Calls Try.prog 8 #[.agg Ka] w fun e w' => e = .returned (.bool true) ∧ Below w.heap.size w w' := by
  have HK : Hid (k.length = 32) := hk
  go_enter Try.func8, Try.ntmps8
  go_wp2_with (refine wpList_box_row (k := .u8) rfl 31 _ rfl (byI k) (by rw [← hKa]; rfl) (ne32 hk) (max32 hk) ?_)
  intro w1 rk bn sn
  rw [byI_length, hk] at rk
  have hbw := bn
  clear bn sn hKa hk
  go_wp2_with fail
  refine (awake_any _).mono ?_
  rintro e wa ⟨rfl, bn⟩
  replace rk := rk.kept bn
  replace hbw := stepB hbw bn
  clear bn
  have kk := rk.rdB
  rw [HK.out] at kk
  clear rk
  go_wp2_with fail
  refine (public_any _ k _ kk).mono ?_
  rintro e w3 ⟨hp, -⟩
  obtain ⟨vx, rfl, hN⟩ := hp HK.out
  replace kk := kk.kept hN.2
  replace hbw := stepB hbw hN.2
  have kx := hN.rd
  clear hN hp
  go_wp2_with fail
  refine (publicR_any _ k _ kk).mono ?_
  rintro e w4 ⟨hp, -⟩
  obtain ⟨vy, rfl, hN⟩ := hp HK.out
  replace kk := kk.kept hN.2
  replace kx := kx.kept hN.2
  replace hbw := stepB hbw hN.2
  have ky : Rd w4 vy (enL (scN k key9)) := hN.rd
  clear hN hp
  go_wp2_with (refine wpList_alloc_row (k := .u8) rfl 31 rfl (byI zs32) (alloc32 _) (byI_ne zs32_ne) (by rw [byI_length, zs32_length]; decide) ?_)
  intro w5 r5 bn sn
  rw [byI_length, zs32_length] at r5
  have hs5 := hbw.size
  have hc := r5.cellB (j := 0) (by rw [zs32_length]; decide)
  have hf := r5.free 0
  have rn := r5.setB 0 9
  rw [show zs32.set 0 9 = key9 from key9_set] at rn
  have hbn : Below w4.heap.size w4 (w5.setCell ⟨w4.heap.size, 0, none⟩ (.int .u8 (((9 : UInt8).toNat : Nat) : Int))) := (Wrote.set w4.heap.size 0 w5 _).below _ _ (Nat.le_refl _) bn
  have kn := rn.rdB
  rw [key9_length] at kn
  replace kk := kk.kept hbn
  replace kx := kx.kept hbn
  replace ky := ky.kept hbn
  replace hbw := stepB hbw hbn
  have HKN : Hid (Rd _ _ _) := kn.drew
  have HKK : Hid (Rd _ _ _) := kk.drew
  have HKX : Hid (Rd _ _ _) := kx.drew
  have HKY : Hid (Rd _ _ _) := ky.drew
  have HBW : Hid (Below _ _ _) := hbw.drew
  clear r5 rn bn sn hbn kn kk kx ky hbw
  go_wp2_with fail
  refine wpG_begin (by kernel_rfl) ?_
  refine wpG_take (i := 0) (oi := { dst := some 26, op := Op.slice 31 (Operand.tmp 1) none none none, type := 22, pos := "law.go:104", after := #[], guard := none }) (v := ?_) rfl (by kernel_rfl) (by kernel_rfl) (by kernel_rfl) (by rfl) ?_ ?_
  rotate_left
  · intro W hW; first | (go_simp; done) | (go_simp; with_reducible rfl)
  try simp only [Act.put, List.setIfInBounds_toArray, List.set_cons_zero, List.set_cons_succ]
  refine wpG_take (i := 1) (oi := { dst := some 27, op := Op.slice 31 (Operand.tmp 8) none none none, type := 22, pos := "law.go:104", after := #[], guard := none }) (v := ?_) rfl (by kernel_rfl) (by kernel_rfl) (by kernel_rfl) (by rfl) ?_ ?_
  rotate_left
  · intro W hW; first | (go_simp; done) | (go_simp; with_reducible rfl)
  try simp only [Act.put, List.setIfInBounds_toArray, List.set_cons_zero, List.set_cons_succ]
  refine wpG_do (i := 2) (o := { dst := some 28, op := Op.call { callee := Callee.value (Operand.func 10), args := #[Operand.tmp 26, Operand.tmp 27], argTypes := #[22, 22] }, type := 25, pos := "law.go:104", after := #[{ on := 0, ground := Ground.data }, { on := 1, ground := Ground.data }], guard := none }) (by kernel_rfl) rfl (by rfl) fun K hK => ?_
  go_simp
  refine (scalar_any _ _ k key9 _ HKK.out HKN.out HK.out key9_length).mono ?_
  rintro e w6 ⟨vz, rfl, hN⟩
  refine hK.out _ _ hN.2 ?_
  clear hK K
  try simp only [Act.put, List.setIfInBounds_toArray, List.set_cons_zero, List.set_cons_succ]
  refine wpG_take (i := 3) (oi := { dst := some 25, op := Op.move (Operand.tmp 28), type := 25, pos := "law.go:104", after := #[{ on := 2, ground := Ground.data }], guard := none }) (v := ?_) rfl (by kernel_rfl) (by kernel_rfl) (by kernel_rfl) (by rfl) ?_ ?_
  rotate_left
  · intro W hW; first | (go_simp; done) | (go_simp; with_reducible rfl)
  try simp only [Act.put, List.setIfInBounds_toArray, List.set_cons_zero, List.set_cons_succ]
  refine wpG_take (i := 4) (oi := { dst := some 29, op := Op.extract (Operand.tmp 25) 0, type := 22, pos := "law.go:104", after := #[{ on := 3, ground := Ground.data }], guard := none }) (v := ?_) rfl (by kernel_rfl) (by kernel_rfl) (by kernel_rfl) (by rfl) ?_ ?_
  rotate_left
  · intro W hW; first | (go_simp; done) | (go_simp; with_reducible rfl)
  try simp only [Act.put, List.setIfInBounds_toArray, List.set_cons_zero, List.set_cons_succ]
  refine wpG_take (i := 5) (oi := { dst := some 30, op := Op.extract (Operand.tmp 25) 1, type := 24, pos := "law.go:104", after := #[{ on := 3, ground := Ground.data }, { on := 6, ground := Ground.gcOnly Departure.lateStores }], guard := none }) (v := ?_) rfl (by kernel_rfl) (by kernel_rfl) (by kernel_rfl) (by rfl) ?_ ?_
  rotate_left
  · intro W hW; first | (go_simp; done) | (go_simp; with_reducible rfl)
  try simp only [Act.put, List.setIfInBounds_toArray, List.set_cons_zero, List.set_cons_succ]
  refine wpG_take (i := 6) (oi := { dst := some 9, op := Op.assign (Operand.tmp 29), type := 22, pos := "law.go:104", after := #[{ on := 4, ground := Ground.data }, { on := 2, ground := Ground.chain }, { on := 0, ground := Ground.phase }, { on := 1, ground := Ground.phase }, { on := 2, ground := Ground.phase }, { on := 3, ground := Ground.phase }, { on := 4, ground := Ground.phase }, { on := 5, ground := Ground.textOnly Departure.lateStores }], guard := none }) (v := ?_) rfl (by kernel_rfl) (by kernel_rfl) (by kernel_rfl) (by rfl) ?_ ?_
  rotate_left
  · intro W hW; first | (go_simp; done) | (go_simp; with_reducible rfl)
  try simp only [Act.put, List.setIfInBounds_toArray, List.set_cons_zero, List.set_cons_succ]
  refine wpG_take (i := 7) (oi := { dst := some 10, op := Op.assign (Operand.tmp 30), type := 24, pos := "law.go:104", after := #[{ on := 5, ground := Ground.data }, { on := 6, ground := Ground.chain }, { on := 0, ground := Ground.phase }, { on := 1, ground := Ground.phase }, { on := 2, ground := Ground.phase }, { on := 3, ground := Ground.phase }, { on := 4, ground := Ground.phase }, { on := 5, ground := Ground.phase }, { on := 6, ground := Ground.phase }], guard := none }) (v := ?_) rfl (by kernel_rfl) (by kernel_rfl) (by kernel_rfl) (by rfl) ?_ ?_
  rotate_left
  · intro W hW; first | (go_simp; done) | (go_simp; with_reducible rfl)
  try simp only [Act.put, List.setIfInBounds_toArray, List.set_cons_zero, List.set_cons_succ]
  refine wpG_done (by kernel_rfl) ?_
  have kx := HKX.out.kept hN.2
  have ky := HKY.out.kept hN.2
  have hbw := stepB HBW.out hN.2
  have kz := hN.rd
  clear hN HKX HKY HKK HKN HBW
  generalize enL (scN k key9) = L at kx ky kz
  have hcv1 := conv_any kx
  have hcv2 := conv_any ky
  have hcv3 := conv_any kz
  clear kx ky kz
  go_wp2
  go_ret
  exact ⟨rfl, hbw⟩
end Go.Proofs.Ythokfcmnijpkhaa
