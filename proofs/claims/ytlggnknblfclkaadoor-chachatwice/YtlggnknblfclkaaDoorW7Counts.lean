/- What the law ChachaCounts answers at every input: the walk. -/
import Derived.Test.YtlggnknblfclkaaDoorC07e
namespace Go.Proofs.YtlggnknblfclkaaDoor
open Go.ChangeShapes Go.WideShapes Go.ChangeAt Go.RowKit
set_option linter.unusedSimpArgs false
set_option linter.unusedVariables false

theorem max_arr {l : List UInt8} {n : Nat} (h : l.length = n) (hn : n ≤ 1000) : (byI l).length ≤ maxLen := by
  rw [byI_length, h]
  unfold maxLen
  omega
theorem ne_arr {l : List UInt8} {n : Nat} (h : l.length = n) (hn : 0 < n) : byI l ≠ [] := byI_ne (by rw [← List.length_pos_iff]; omega)

set_option maxRecDepth 100000 in
set_option maxHeartbeats 4000000 in
theorem counts_walk (Ka : Array Value) (k : List UInt8) (hk : k.length = 32) (hKa : Ka = ((byI k).map (Value.int .u8)).toArray) (Na : Array Value) (n : List UInt8) (hn : n.length = 12) (hNa : Na = ((byI n).map (Value.int .u8)).toArray) (y z : Int) (w : World) (ht : PlT w) :
    Calls Tryd.prog 7 #[.agg Ka, .agg Na, .int .i64 y, .int .i64 z] w fun e w' => e = .returned (.bool true) ∧ Below w.heap.size w w' := by
  obtain ⟨ti, hti, hz0, hz1, hz2⟩ := info_parts info5
  obtain ⟨X, hX, hXa⟩ := and_small z 511 (by decide)
  have hXa' : bits .and .i64 z 511 = (X : Int) := hXa
  obtain ⟨Y, hY, hYa⟩ := and_small y 7 (by decide)
  have hYa' : bits .and .i64 y 7 = (Y : Int) := hYa
  obtain ⟨c, hc⟩ : ∃ c : Nat, c = if Y = 0 then 0 else 4294967296 - Y := ⟨_, rfl⟩
  have hc32 : c < 4294967296 := by rw [hc]; split <;> omega
  have e1 : IntKind.u32.wrap (Y : Int) = (Y : Int) := by rw [IntKind.wrap_u32']; omega
  have e2 : (Y : Int) % 4294967296 = (Y : Int) := by omega
  have e3 : (0 - (Y : Int)) % 4294967296 = (c : Int) := by rw [hc]; split <;> omega
  have e4 : (-(Y : Int)) % 4294967296 = (c : Int) := by rw [hc]; split <;> omega
  have ec : IntKind.u64.wrap (c : Int) = (c : Int) := by rw [IntKind.wrap_u64]; omega
  have HK : Hid (k.length = 32) := hk
  have HN : Hid (n.length = 12) := hn
  have HC : Hid _ := hc32
  clear hXa hYa hc
  go_enter Tryd.func7, Tryd.ntmps7
  go_wp2_with (refine wpList_box_row (k := .u8) rfl 37 _ rfl (byI k) (by rw [← hKa]; rfl) (ne_arr hk (by decide)) (max_arr hk (by decide)) ?_)
  intro w1 rk bn sn
  rw [byI_length, hk] at rk
  have hbw := bn
  clear bn sn hKa hk
  go_wp2_with (refine wpList_box_row (k := .u8) rfl 38 _ rfl (byI n) (by rw [← hNa]; rfl) (ne_arr hn (by decide)) (max_arr hn (by decide)) ?_)
  intro w2 rn bn sn
  rw [byI_length, hn] at rn
  replace rk := rk.kept bn
  replace hbw := stepB hbw bn
  clear bn sn hNa hn
  go_wp2_with fail
  refine (awake_any _ (ht.kept hbw)).mono ?_
  rintro e wa ⟨rfl, bn⟩
  replace rk := rk.kept bn
  replace rn := rn.kept bn
  replace hbw := stepB hbw bn
  have ht1 := ht.kept hbw
  clear bn ht
  have kk := rk.rdB
  have kn := rn.rdB
  rw [HK.out] at kk
  rw [HN.out] at kn
  clear rk rn
  go_wp2_with (at_make; go_must (refine wpList_make_full _ rfl _ _ 30 rfl wa.heap.size 5 ti _ 1 Tryd.underlying30 hti hz0 hz1 _ _ _ _ X rfl rfl rfl rfl (by rw [hz2]; omega) (by unfold maxLen; omega) (Nat.le_refl _) ?_))
  intro wb hown hgr
  have hNb := New.made hown hgr
  have K1 : Hid (Rd wb (.slice (some ⟨w.heap.size, 0, none⟩) 32 32) k) := kk.kept hNb.2
  have N1 : Hid (Rd wb (.slice (some ⟨w1.heap.size, 0, none⟩) 12 12) n) := kn.kept hNb.2
  have T1 : Hid (PlT wb) := ht1.kept hNb.2
  have B1 : Hid _ := hNb.rd
  have HB : Hid _ := stepB hbw hNb.2
  clear hown hgr hNb kk kn ht1 hbw
  go_wp2_with fail
  refine wpG_begin (by kernel_rfl) ?_
  refine wpG_take (i := 0) (oi := { dst := some 22, op := Op.slice 37 (Operand.tmp 4) none none none, type := 30, pos := "law.go:82", after := #[], guard := none }) (v := ?_) rfl (by kernel_rfl) (by kernel_rfl) (by kernel_rfl) (by rfl) ?_ ?_
  rotate_left
  · intro W hW; first | (go_simp; done) | (go_simp; with_reducible rfl)
  try simp only [Act.put, List.setIfInBounds_toArray, List.set_cons_zero, List.set_cons_succ]
  refine wpG_take (i := 1) (oi := { dst := some 23, op := Op.move (Operand.tmp 11), type := 22, pos := "law.go:82", after := #[], guard := none }) (v := ?_) rfl (by kernel_rfl) (by kernel_rfl) (by kernel_rfl) (by rfl) ?_ ?_
  rotate_left
  · intro W hW; first | (go_simp; done) | (go_simp; with_reducible rfl)
  try simp only [Act.put, List.setIfInBounds_toArray, List.set_cons_zero, List.set_cons_succ]
  refine wpG_take (i := 2) (oi := { dst := some 24, op := Op.slice 38 (Operand.tmp 5) none none none, type := 30, pos := "law.go:82", after := #[], guard := none }) (v := ?_) rfl (by kernel_rfl) (by kernel_rfl) (by kernel_rfl) (by rfl) ?_ ?_
  rotate_left
  · intro W hW; first | (go_simp; done) | (go_simp; with_reducible rfl)
  try simp only [Act.put, List.setIfInBounds_toArray, List.set_cons_zero, List.set_cons_succ]
  refine wpG_take (i := 3) (oi := { dst := some 25, op := Op.move (Operand.tmp 10), type := 30, pos := "law.go:82", after := #[], guard := none }) (v := ?_) rfl (by kernel_rfl) (by kernel_rfl) (by kernel_rfl) (by rfl) ?_ ?_
  rotate_left
  · intro W hW; first | (go_simp; done) | (go_simp; with_reducible rfl)
  try simp only [Act.put, List.setIfInBounds_toArray, List.set_cons_zero, List.set_cons_succ]
  refine wpG_take (i := 6) (oi := { dst := some 28, op := Op.slice 37 (Operand.tmp 4) none none none, type := 30, pos := "law.go:82", after := #[], guard := none }) (v := ?_) rfl (by kernel_rfl) (by kernel_rfl) (by kernel_rfl) (by rfl) ?_ ?_
  rotate_left
  · intro W hW; first | (go_simp; done) | (go_simp; with_reducible rfl)
  try simp only [Act.put, List.setIfInBounds_toArray, List.set_cons_zero, List.set_cons_succ]
  refine wpG_take (i := 7) (oi := { dst := some 29, op := Op.move (Operand.tmp 11), type := 22, pos := "law.go:82", after := #[], guard := none }) (v := ?_) rfl (by kernel_rfl) (by kernel_rfl) (by kernel_rfl) (by rfl) ?_ ?_
  rotate_left
  · intro W hW; first | (go_simp; done) | (go_simp; with_reducible rfl)
  try simp only [Act.put, List.setIfInBounds_toArray, List.set_cons_zero, List.set_cons_succ]
  refine wpG_take (i := 8) (oi := { dst := some 30, op := Op.convert 22 26 (Operand.tmp 29), type := 26, pos := "law.go:82", after := #[{ on := 7, ground := Ground.data }], guard := none }) (v := ?_) rfl (by kernel_rfl) (by kernel_rfl) (by kernel_rfl) (by rfl) ?_ ?_
  rotate_left
  · intro W hW; first | (go_simp; done) | (go_simp; with_reducible rfl)
  try simp only [Act.put, List.setIfInBounds_toArray, List.set_cons_zero, List.set_cons_succ]
  refine wpG_take (i := 9) (oi := { dst := some 31, op := Op.slice 38 (Operand.tmp 5) none none none, type := 30, pos := "law.go:82", after := #[], guard := none }) (v := ?_) rfl (by kernel_rfl) (by kernel_rfl) (by kernel_rfl) (by rfl) ?_ ?_
  rotate_left
  · intro W hW; first | (go_simp; done) | (go_simp; with_reducible rfl)
  try simp only [Act.put, List.setIfInBounds_toArray, List.set_cons_zero, List.set_cons_succ]
  refine wpG_take (i := 10) (oi := { dst := some 32, op := Op.move (Operand.tmp 10), type := 30, pos := "law.go:82", after := #[], guard := none }) (v := ?_) rfl (by kernel_rfl) (by kernel_rfl) (by kernel_rfl) (by rfl) ?_ ?_
  rotate_left
  · intro W hW; first | (go_simp; done) | (go_simp; with_reducible rfl)
  try simp only [Act.put, List.setIfInBounds_toArray, List.set_cons_zero, List.set_cons_succ]
  refine wpG_do (i := 4) (o := { dst := some 26, op := Op.call { callee := Callee.value (Operand.func 13), args := #[Operand.tmp 22, Operand.tmp 23, Operand.tmp 24, Operand.tmp 25], argTypes := #[30, 22, 30, 30] }, type := 30, pos := "law.go:82", after := #[{ on := 0, ground := Ground.data }, { on := 1, ground := Ground.data }, { on := 2, ground := Ground.data }, { on := 3, ground := Ground.data }], guard := none }) (by kernel_rfl) rfl (by rfl) fun K hK => ?_
  go_simp
  refine (stream_any _ _ _ k n (List.replicate X 0) c _ rfl HC.out _ (PlT.kept T1.out (Below.refl _ _).drew) (Rd.drew K1.out) (Rd.drew N1.out) (Rd.drew B1.out) HK.out HN.out (by rw [List.length_replicate]; omega)).mono ?_
  rintro e w3 ⟨v3, rfl, hN3⟩
  refine hK.out _ _ hN3.2 ?_
  clear hK K
  have k3 := (Rd.drew K1.out).kept hN3.2
  have n3 := (Rd.drew N1.out).kept hN3.2
  have m3 := (Rd.drew B1.out).kept hN3.2
  have x3 := hN3.rd
  try simp only [Act.put, List.setIfInBounds_toArray, List.set_cons_zero, List.set_cons_succ]
  refine wpG_take (i := 5) (oi := { dst := some 27, op := Op.convert 30 9 (Operand.tmp 26), type := 9, pos := "law.go:82", after := #[{ on := 4, ground := Ground.data }], guard := none }) (v := ?_) rfl (by kernel_rfl) (by kernel_rfl) (by kernel_rfl) (by rfl) ?_ ?_
  rotate_left
  · intro W hW; have hcv := conv_any (x3.kept hW); first | (go_simp; done) | (go_simp; with_reducible rfl)
  try simp only [Act.put, List.setIfInBounds_toArray, List.set_cons_zero, List.set_cons_succ]
  refine wpG_do (i := 11) (o := { dst := some 33, op := Op.call { callee := Callee.value (Operand.func 14), args := #[Operand.tmp 28, Operand.tmp 30, Operand.tmp 31, Operand.tmp 32], argTypes := #[30, 26, 30, 30] }, type := 30, pos := "law.go:82", after := #[{ on := 6, ground := Ground.data }, { on := 8, ground := Ground.data }, { on := 9, ground := Ground.data }, { on := 10, ground := Ground.data }, { on := 4, ground := Ground.chain }], guard := none }) (by kernel_rfl) rfl (by rfl) fun K hK => ?_
  go_simp
  refine (streamR_any _ _ _ k n (List.replicate X 0) c _ rfl HC.out _ k3 n3 m3 HK.out HN.out (by rw [List.length_replicate]; omega)).mono ?_
  rintro e w4 ⟨v4, rfl, hN4⟩
  refine hK.out _ _ hN4.2 ?_
  clear hK K
  have x4 := hN4.rd
  try simp only [Act.put, List.setIfInBounds_toArray, List.set_cons_zero, List.set_cons_succ]
  refine wpG_take (i := 12) (oi := { dst := some 34, op := Op.convert 30 9 (Operand.tmp 33), type := 9, pos := "law.go:82", after := #[{ on := 11, ground := Ground.data }], guard := none }) (v := ?_) rfl (by kernel_rfl) (by kernel_rfl) (by kernel_rfl) (by rfl) ?_ ?_
  rotate_left
  · intro W hW; have hcv := conv_any (x4.kept hW); first | (go_simp; done) | (go_simp; with_reducible rfl)
  try simp only [Act.put, List.setIfInBounds_toArray, List.set_cons_zero, List.set_cons_succ]
  refine wpG_take (i := 13) (oi := { dst := some 35, op := Op.binOp BinOp.eql 9 (Operand.tmp 27) (Operand.tmp 34) 9, type := 4, pos := "law.go:82", after := #[{ on := 5, ground := Ground.data }, { on := 12, ground := Ground.data }], guard := none }) (v := ?_) rfl (by kernel_rfl) (by kernel_rfl) (by kernel_rfl) (by rfl) ?_ ?_
  rotate_left
  · intro W hW; first | (go_simp; done) | (go_simp; with_reducible rfl)
  try simp only [Act.put, List.setIfInBounds_toArray, List.set_cons_zero, List.set_cons_succ]
  refine wpG_take (i := 14) (oi := { dst := some 8, op := Op.assign (Operand.tmp 35), type := 4, pos := "law.go:82", after := #[{ on := 13, ground := Ground.data }, { on := 11, ground := Ground.chain }, { on := 0, ground := Ground.phase }, { on := 1, ground := Ground.phase }, { on := 2, ground := Ground.phase }, { on := 3, ground := Ground.phase }, { on := 4, ground := Ground.phase }, { on := 5, ground := Ground.phase }, { on := 6, ground := Ground.phase }, { on := 7, ground := Ground.phase }, { on := 8, ground := Ground.phase }, { on := 9, ground := Ground.phase }, { on := 10, ground := Ground.phase }, { on := 11, ground := Ground.phase }, { on := 12, ground := Ground.phase }, { on := 13, ground := Ground.phase }], guard := none }) (v := ?_) rfl (by kernel_rfl) (by kernel_rfl) (by kernel_rfl) (by rfl) ?_ ?_
  rotate_left
  · intro W hW; first | (go_simp; done) | (go_simp; with_reducible rfl)
  try simp only [Act.put, List.setIfInBounds_toArray, List.set_cons_zero, List.set_cons_succ]
  refine wpG_done (by kernel_rfl) ?_
  have HB4 : Hid _ := stepB (stepB (Below.drew HB.out) hN3.2) hN4.2
  clear k3 n3 m3 x3 x4 hN3 hN4
  go_wp2
  go_ret
  exact ⟨rfl, HB4.out⟩
end Go.Proofs.YtlggnknblfclkaaDoor
