/- What the law ChachaTwice answers at every input: the walk. -/
import Derived.Test.YtlggnknblfclkaaDoorW7Counts
import Derived.Test.YtlggnknblfclkaaDoorCut
namespace Go.Proofs.YtlggnknblfclkaaDoor
open Go.ChangeShapes Go.WideShapes Go.ChangeAt Go.RowKit
set_option linter.unusedSimpArgs false
set_option linter.unusedVariables false

theorem count_facts (c K : Nat) (hc : c < 4294967296) (hK : K ≤ 31) : ∃ d m : Nat, d < 4294967296 ∧ d % 4294967296 = (c + K) % 4294967296 ∧ m = 64 * K ∧ IntKind.u32.wrap (K : Int) = (K : Int) ∧ (K : Int) % 4294967296 = (K : Int) ∧ ((c : Int) + (K : Int)) % 4294967296 = (d : Int) ∧ IntKind.u32.wrap ((c : Int) + (K : Int)) = (d : Int) ∧ IntKind.i64.wrap (64 * (K : Int)) = (m : Int) := by
  refine ⟨(c + K) % 4294967296, 64 * K, Nat.mod_lt _ (by decide), Nat.mod_mod _ _, rfl, ?_, by omega, by omega, ?_, ?_⟩
  · rw [IntKind.wrap_u32']; omega
  · rw [IntKind.wrap_u32']; omega
  · rw [IntWalk.i64_in _ (by omega)]; omega

set_option maxRecDepth 100000 in
set_option maxHeartbeats 4000000 in
theorem twice_walk (Ka : Array Value) (k : List UInt8) (hk : k.length = 32) (hKa : Ka = ((byI k).map (Value.int .u8)).toArray) (C : Int) (hC : (Lit.int .u32 C).wf = true) (Na : Array Value) (n : List UInt8) (hn : n.length = 12) (hNa : Na = ((byI n).map (Value.int .u8)).toArray)
    (vb : Value) (b : List UInt8) (z : Int) (w : World) (hb : Rd w vb b) (ht : PlT w) :
    Calls Tryd.prog 6 #[.agg Ka, .int .u32 C, .agg Na, vb, .int .i64 z] w fun e w' => e = .returned (.bool true) ∧ Below w.heap.size w w' := by
  obtain ⟨c, rfl, hc⟩ := nat_u32 hC
  have HC : Hid _ := hc
  obtain ⟨ab, cb, rfl, hLcb, hmb, hnone, -⟩ := id hb
  obtain ⟨X, hX, hXa⟩ := and_small z 31 (by decide)
  have hXa' : bits .and .i64 z 31 = (X : Int) := hXa
  obtain ⟨L, hL⟩ : ∃ L : Nat, L = b.length := ⟨_, rfl⟩
  rw [← hL] at hb hLcb ⊢
  have HL : Hid _ := hL
  have HK : Hid (k.length = 32) := hk
  have HN : Hid (n.length = 12) := hn
  have HM : Hid (cb ≤ maxLen) := hmb
  have HNo : Hid (ab = none → cb = 0) := hnone
  unfold maxLen at hmb
  clear hC hXa hL hnone
  go_enter Tryd.func6, Tryd.ntmps6
  go_wp2_with (refine wpList_box_row (k := .u8) rfl 37 _ rfl (byI k) (by rw [← hKa]; rfl) (ne_arr hk (by decide)) (max_arr hk (by decide)) ?_)
  intro w1 rk bn sn
  rw [byI_length, hk] at rk
  have hbw := bn
  clear bn sn hKa hk
  go_wp2_with (refine wpList_box_row (k := .u8) rfl 38 _ rfl (byI n) (by rw [← hNa]; rfl) (ne_arr hn (by decide)) (max_arr hn (by decide)) ?_)
  intro w2 rn bn sn
  rw [byI_length, hn] at rn
  replace rk := rk.kept bn
  replace hbw := stepB hbw bn
  clear bn sn hNa hn
  go_wp2_with fail
  refine (awake_any _ (ht.kept hbw)).mono ?_
  rintro e wa ⟨rfl, bn⟩
  replace rk := rk.kept bn
  replace rn := rn.kept bn
  replace hbw := stepB hbw bn
  have kk := rk.rdB
  have kn := rn.rdB
  rw [HK.out] at kk
  rw [HN.out] at kn
  have K0 : Hid (Rd wa (.slice (some ⟨w.heap.size, 0, none⟩) 32 32) k) := kk
  have N0 : Hid (Rd wa (.slice (some ⟨w1.heap.size, 0, none⟩) 12 12) n) := kn
  have T0 : Hid (PlT wa) := ht.kept hbw
  have B0 : Hid (Rd wa (.slice ab L cb) b) := hb.kept hbw
  have HB : Hid _ := hbw
  clear bn ht rk rn kk kn hb hbw
  by_cases hbl : L ≤ 2000
  · have d1 : decide ((2000 : Int) < (L : Int)) = false := decide_eq_false (by omega)
    have g1 : (L : Int) ≤ 2000 := by omega
    go_wp2_with fail
    refine wpG_begin (by kernel_rfl) ?_
    refine wpG_take (i := 0) (oi := { dst := some 23, op := Op.slice 37 (Operand.tmp 5) none none none, type := 30, pos := "law.go:63", after := #[], guard := none }) (v := ?_) rfl (by kernel_rfl) (by kernel_rfl) (by kernel_rfl) (by rfl) ?_ ?_
    rotate_left
    · intro W hW; first | (go_simp; done) | (go_simp; with_reducible rfl)
    try simp only [Act.put, List.setIfInBounds_toArray, List.set_cons_zero, List.set_cons_succ]
    refine wpG_take (i := 1) (oi := { dst := some 24, op := Op.move (Operand.tmp 1), type := 22, pos := "law.go:63", after := #[], guard := none }) (v := ?_) rfl (by kernel_rfl) (by kernel_rfl) (by kernel_rfl) (by rfl) ?_ ?_
    rotate_left
    · intro W hW; first | (go_simp; done) | (go_simp; with_reducible rfl)
    try simp only [Act.put, List.setIfInBounds_toArray, List.set_cons_zero, List.set_cons_succ]
    refine wpG_take (i := 2) (oi := { dst := some 25, op := Op.slice 38 (Operand.tmp 7) none none none, type := 30, pos := "law.go:63", after := #[], guard := none }) (v := ?_) rfl (by kernel_rfl) (by kernel_rfl) (by kernel_rfl) (by rfl) ?_ ?_
    rotate_left
    · intro W hW; first | (go_simp; done) | (go_simp; with_reducible rfl)
    try simp only [Act.put, List.setIfInBounds_toArray, List.set_cons_zero, List.set_cons_succ]
    refine wpG_take (i := 3) (oi := { dst := some 26, op := Op.move (Operand.tmp 3), type := 30, pos := "law.go:63", after := #[], guard := none }) (v := ?_) rfl (by kernel_rfl) (by kernel_rfl) (by kernel_rfl) (by rfl) ?_ ?_
    rotate_left
    · intro W hW; first | (go_simp; done) | (go_simp; with_reducible rfl)
    try simp only [Act.put, List.setIfInBounds_toArray, List.set_cons_zero, List.set_cons_succ]
    refine wpG_do (i := 4) (o := { dst := some 27, op := Op.call { callee := Callee.value (Operand.func 13), args := #[Operand.tmp 23, Operand.tmp 24, Operand.tmp 25, Operand.tmp 26], argTypes := #[30, 22, 30, 30] }, type := 30, pos := "law.go:63", after := #[{ on := 0, ground := Ground.data }, { on := 1, ground := Ground.data }, { on := 2, ground := Ground.data }, { on := 3, ground := Ground.data }], guard := none }) (by kernel_rfl) rfl (by rfl) fun K hK => ?_
    go_simp
    refine (stream_any _ _ _ k n b c _ rfl HC.out _ (PlT.kept T0.out (Below.refl _ _).drew) (Rd.drew K0.out) (Rd.drew N0.out) (Rd.drew B0.out) HK.out HN.out (by rw [← HL.out]; omega)).mono ?_
    rintro e w3 ⟨vx, rfl, hN3⟩
    refine hK.out _ _ hN3.2 ?_
    clear hK K
    try simp only [Act.put, List.setIfInBounds_toArray, List.set_cons_zero, List.set_cons_succ]
    refine wpG_take (i := 5) (oi := { dst := some 12, op := Op.assign (Operand.tmp 27), type := 30, pos := "law.go:63", after := #[{ on := 4, ground := Ground.data }, { on := 4, ground := Ground.chain }, { on := 0, ground := Ground.phase }, { on := 1, ground := Ground.phase }, { on := 2, ground := Ground.phase }, { on := 3, ground := Ground.phase }, { on := 4, ground := Ground.phase }], guard := none }) (v := ?_) rfl (by kernel_rfl) (by kernel_rfl) (by kernel_rfl) (by rfl) ?_ ?_
    rotate_left
    · intro W hW; first | (go_simp; done) | (go_simp; with_reducible rfl)
    try simp only [Act.put, List.setIfInBounds_toArray, List.set_cons_zero, List.set_cons_succ]
    refine wpG_done (by kernel_rfl) ?_
    have bx := stepB (Below.refl wa.heap.size wa).drew hN3.2
    have K1 : Hid (Rd w3 (.slice (some ⟨w.heap.size, 0, none⟩) 32 32) k) := Rd.kept K0.out bx
    have N1 : Hid (Rd w3 (.slice (some ⟨w1.heap.size, 0, none⟩) 12 12) n) := Rd.kept N0.out bx
    have T1 : Hid (PlT w3) := PlT.kept T0.out bx
    have B1 : Hid (Rd w3 (.slice ab L cb) b) := Rd.kept B0.out bx
    have X1 : Hid (Rd w3 vx (smL k c n b)) := hN3.rd
    have HB1 : Hid _ := stepB HB.out bx
    clear K0 N0 T0 B0 HB bx hN3
    go_wp2_with fail
    refine wpG_begin (by kernel_rfl) ?_
    refine wpG_take (i := 0) (oi := { dst := some 28, op := Op.slice 37 (Operand.tmp 5) none none none, type := 30, pos := "law.go:64", after := #[], guard := none }) (v := ?_) rfl (by kernel_rfl) (by kernel_rfl) (by kernel_rfl) (by rfl) ?_ ?_
    rotate_left
    · intro W hW; first | (go_simp; done) | (go_simp; with_reducible rfl)
    try simp only [Act.put, List.setIfInBounds_toArray, List.set_cons_zero, List.set_cons_succ]
    refine wpG_take (i := 1) (oi := { dst := some 29, op := Op.move (Operand.tmp 1), type := 22, pos := "law.go:64", after := #[], guard := none }) (v := ?_) rfl (by kernel_rfl) (by kernel_rfl) (by kernel_rfl) (by rfl) ?_ ?_
    rotate_left
    · intro W hW; first | (go_simp; done) | (go_simp; with_reducible rfl)
    try simp only [Act.put, List.setIfInBounds_toArray, List.set_cons_zero, List.set_cons_succ]
    refine wpG_take (i := 2) (oi := { dst := some 30, op := Op.slice 38 (Operand.tmp 7) none none none, type := 30, pos := "law.go:64", after := #[], guard := none }) (v := ?_) rfl (by kernel_rfl) (by kernel_rfl) (by kernel_rfl) (by rfl) ?_ ?_
    rotate_left
    · intro W hW; first | (go_simp; done) | (go_simp; with_reducible rfl)
    try simp only [Act.put, List.setIfInBounds_toArray, List.set_cons_zero, List.set_cons_succ]
    refine wpG_take (i := 3) (oi := { dst := some 31, op := Op.move (Operand.tmp 12), type := 30, pos := "law.go:64", after := #[], guard := none }) (v := ?_) rfl (by kernel_rfl) (by kernel_rfl) (by kernel_rfl) (by rfl) ?_ ?_
    rotate_left
    · intro W hW; first | (go_simp; done) | (go_simp; with_reducible rfl)
    try simp only [Act.put, List.setIfInBounds_toArray, List.set_cons_zero, List.set_cons_succ]
    refine wpG_do (i := 4) (o := { dst := some 32, op := Op.call { callee := Callee.value (Operand.func 13), args := #[Operand.tmp 28, Operand.tmp 29, Operand.tmp 30, Operand.tmp 31], argTypes := #[30, 22, 30, 30] }, type := 30, pos := "law.go:64", after := #[{ on := 0, ground := Ground.data }, { on := 1, ground := Ground.data }, { on := 2, ground := Ground.data }, { on := 3, ground := Ground.data }], guard := none }) (by kernel_rfl) rfl (by rfl) fun K hK => ?_
    go_simp
    refine (stream_any _ _ _ k n (smL k c n b) c _ rfl HC.out _ (PlT.kept T1.out (Below.refl _ _).drew) (Rd.drew K1.out) (Rd.drew N1.out) (Rd.drew X1.out) HK.out HN.out (by rw [smL_length, ← HL.out]; omega)).mono ?_
    rintro e w4 ⟨vy, rfl, hN4⟩
    rw [smL_twice] at hN4
    refine hK.out _ _ hN4.2 ?_
    clear hK K
    try simp only [Act.put, List.setIfInBounds_toArray, List.set_cons_zero, List.set_cons_succ]
    refine wpG_take (i := 5) (oi := { dst := some 13, op := Op.assign (Operand.tmp 32), type := 30, pos := "law.go:64", after := #[{ on := 4, ground := Ground.data }, { on := 4, ground := Ground.chain }, { on := 0, ground := Ground.phase }, { on := 1, ground := Ground.phase }, { on := 2, ground := Ground.phase }, { on := 3, ground := Ground.phase }, { on := 4, ground := Ground.phase }], guard := none }) (v := ?_) rfl (by kernel_rfl) (by kernel_rfl) (by kernel_rfl) (by rfl) ?_ ?_
    rotate_left
    · intro W hW; first | (go_simp; done) | (go_simp; with_reducible rfl)
    try simp only [Act.put, List.setIfInBounds_toArray, List.set_cons_zero, List.set_cons_succ]
    refine wpG_done (by kernel_rfl) ?_
    have bx := stepB (Below.refl w3.heap.size w3).drew hN4.2
    have K2 : Hid (Rd w4 (.slice (some ⟨w.heap.size, 0, none⟩) 32 32) k) := Rd.kept K1.out bx
    have N2 : Hid (Rd w4 (.slice (some ⟨w1.heap.size, 0, none⟩) 12 12) n) := Rd.kept N1.out bx
    have T2 : Hid (PlT w4) := PlT.kept T1.out bx
    have B2 : Hid (Rd w4 (.slice ab L cb) b) := Rd.kept B1.out bx
    have X2 : Hid (Rd w4 vx (smL k c n b)) := Rd.kept X1.out bx
    have Y2 : Hid (Rd w4 vy b) := hN4.rd
    have HB2 : Hid _ := stepB HB1.out bx
    clear K1 N1 T1 B1 X1 HB1 bx hN4
    obtain ⟨M, hM⟩ : ∃ M : Nat, M = 64 * X := ⟨_, rfl⟩
    have eM : IntKind.i64.wrap (64 * (X : Int)) = (M : Int) := by rw [IntWalk.i64_in _ (by omega)]; omega
    obtain ⟨Z, hZ⟩ : ∃ Z : Nat, Z = L / 64 := ⟨_, rfl⟩
    have eZ : ((L : Nat) : Int).tdiv 64 = (Z : Int) := by rw [Int.tdiv_eq_ediv_of_nonneg (by omega)]; omega
    have eZ2 : (L : Int) / 64 = (Z : Int) := by omega
    have eZ3 : IntKind.i64.wrap (Z : Int) = (Z : Int) := IntWalk.i64_in _ (by omega)
    have hcase : (decide ((L : Int) < (M : Int)) = true ∧ (L : Int) < (M : Int) ∧ Z ≤ 31 ∧ 64 * Z ≤ L) ∨ (decide ((L : Int) < (M : Int)) = false ∧ (M : Int) ≤ (L : Int) ∧ X ≤ 31 ∧ 64 * X ≤ L) := by
      by_cases h : L < M
      · exact .inl ⟨decide_eq_true (by omega), by omega, by omega, by omega⟩
      · exact .inr ⟨decide_eq_false (by omega), by omega, by omega, by omega⟩
    have HMX : Hid (M = 64 * X) := hM
    clear hM hZ hX
    rcases hcase with ⟨d2, g2, g3, g4⟩ | ⟨d2, g2, g3, g4⟩
    · obtain ⟨d, m, hd, hdc, hm, f1, f2, f3, f4, f5⟩ := count_facts c Z HC.out g3
      have hmL : m ≤ L := by omega
      have hmI : (m : Int) ≤ (L : Int) := by omega
      obtain ⟨ab', htail, hrest⟩ := exec_tail (L := L) (m := m) hmL hLcb HM.out HNo.out
      have HT' : Hid _ := @htail
      have HP : Hid (smL k c n (b.take m) ++ smL k d n (b.drop m) = smL k c n b) := by
        show _ = _
        rw [smL_congr (c := d) (d := c + Z) hdc, hm]
        exact smL_parts k c n b Z (by rw [← HL.out]; exact g4)
      have HD : Hid _ := hd
      clear hdc hd hm g3 g4
      go_wp2_with fail
      refine wpG_begin (by kernel_rfl) ?_
      refine wpG_take (i := 0) (oi := { dst := some 43, op := Op.slice 37 (Operand.tmp 5) none none none, type := 30, pos := "law.go:69", after := #[], guard := none }) (v := ?_) rfl (by kernel_rfl) (by kernel_rfl) (by kernel_rfl) (by rfl) ?_ ?_
      rotate_left
      · intro W hW; first | (go_simp; done) | (go_simp; with_reducible rfl)
      try simp only [Act.put, List.setIfInBounds_toArray, List.set_cons_zero, List.set_cons_succ]
      refine wpG_take (i := 1) (oi := { dst := some 44, op := Op.move (Operand.tmp 1), type := 22, pos := "law.go:69", after := #[], guard := none }) (v := ?_) rfl (by kernel_rfl) (by kernel_rfl) (by kernel_rfl) (by rfl) ?_ ?_
      rotate_left
      · intro W hW; first | (go_simp; done) | (go_simp; with_reducible rfl)
      try simp only [Act.put, List.setIfInBounds_toArray, List.set_cons_zero, List.set_cons_succ]
      refine wpG_take (i := 2) (oi := { dst := some 45, op := Op.slice 38 (Operand.tmp 7) none none none, type := 30, pos := "law.go:69", after := #[], guard := none }) (v := ?_) rfl (by kernel_rfl) (by kernel_rfl) (by kernel_rfl) (by rfl) ?_ ?_
      rotate_left
      · intro W hW; first | (go_simp; done) | (go_simp; with_reducible rfl)
      try simp only [Act.put, List.setIfInBounds_toArray, List.set_cons_zero, List.set_cons_succ]
      refine wpG_take (i := 3) (oi := { dst := some 46, op := Op.move (Operand.tmp 3), type := 30, pos := "law.go:69", after := #[], guard := none }) (v := ?_) rfl (by kernel_rfl) (by kernel_rfl) (by kernel_rfl) (by rfl) ?_ ?_
      rotate_left
      · intro W hW; first | (go_simp; done) | (go_simp; with_reducible rfl)
      try simp only [Act.put, List.setIfInBounds_toArray, List.set_cons_zero, List.set_cons_succ]
      refine wpG_take (i := 4) (oi := { dst := some 47, op := Op.move (Operand.tmp 14), type := 3, pos := "law.go:69", after := #[], guard := none }) (v := ?_) rfl (by kernel_rfl) (by kernel_rfl) (by kernel_rfl) (by rfl) ?_ ?_
      rotate_left
      · intro W hW; first | (go_simp; done) | (go_simp; with_reducible rfl)
      try simp only [Act.put, List.setIfInBounds_toArray, List.set_cons_zero, List.set_cons_succ]
      refine wpG_take (i := 5) (oi := { dst := some 48, op := Op.binOp BinOp.mul 3 (Operand.const (Value.int IntKind.i64 64)) (Operand.tmp 47) 3, type := 3, pos := "law.go:69", after := #[{ on := 4, ground := Ground.data }], guard := none }) (v := ?_) rfl (by kernel_rfl) (by kernel_rfl) (by kernel_rfl) (by rfl) ?_ ?_
      rotate_left
      · intro W hW; first | (go_simp; done) | (go_simp; with_reducible rfl)
      try simp only [Act.put, List.setIfInBounds_toArray, List.set_cons_zero, List.set_cons_succ]
      refine wpG_take (i := 6) (oi := { dst := some 49, op := Op.slice 30 (Operand.tmp 46) none (some (Operand.tmp 48)) none, type := 30, pos := "law.go:69", after := #[{ on := 3, ground := Ground.data }, { on := 5, ground := Ground.data }], guard := none }) (v := ?_) rfl (by kernel_rfl) (by kernel_rfl) (by kernel_rfl) (by rfl) ?_ ?_
      rotate_left
      · intro W hW; refine Eq.trans (exec_head _ _ (by rfl) (by rfl) (by rfl) hmL hLcb HM.out HNo.out) ?_; with_reducible rfl
      try simp only [Act.put, List.setIfInBounds_toArray, List.set_cons_zero, List.set_cons_succ]
      refine wpG_do (i := 7) (o := { dst := some 50, op := Op.call { callee := Callee.value (Operand.func 13), args := #[Operand.tmp 43, Operand.tmp 44, Operand.tmp 45, Operand.tmp 49], argTypes := #[30, 22, 30, 30] }, type := 30, pos := "law.go:69", after := #[{ on := 0, ground := Ground.data }, { on := 1, ground := Ground.data }, { on := 2, ground := Ground.data }, { on := 6, ground := Ground.data }], guard := none }) (by kernel_rfl) rfl (by rfl) fun K hK => ?_
      go_simp
      refine (stream_any _ _ _ k n (b.take m) c _ rfl HC.out _ (PlT.kept T2.out (Below.refl _ _).drew) (Rd.drew K2.out) (Rd.drew N2.out) ((Rd.drew B2.out).take hmL) HK.out HN.out (by rw [List.length_take]; omega)).mono ?_
      rintro e w5 ⟨vp, rfl, hN5⟩
      refine hK.out _ _ hN5.2 ?_
      clear hK K
      try simp only [Act.put, List.setIfInBounds_toArray, List.set_cons_zero, List.set_cons_succ]
      refine wpG_take (i := 8) (oi := { dst := some 15, op := Op.assign (Operand.tmp 50), type := 30, pos := "law.go:69", after := #[{ on := 7, ground := Ground.data }, { on := 7, ground := Ground.chain }, { on := 0, ground := Ground.phase }, { on := 1, ground := Ground.phase }, { on := 2, ground := Ground.phase }, { on := 3, ground := Ground.phase }, { on := 4, ground := Ground.phase }, { on := 5, ground := Ground.phase }, { on := 6, ground := Ground.phase }, { on := 7, ground := Ground.phase }], guard := none }) (v := ?_) rfl (by kernel_rfl) (by kernel_rfl) (by kernel_rfl) (by rfl) ?_ ?_
      rotate_left
      · intro W hW; first | (go_simp; done) | (go_simp; with_reducible rfl)
      try simp only [Act.put, List.setIfInBounds_toArray, List.set_cons_zero, List.set_cons_succ]
      refine wpG_done (by kernel_rfl) ?_
      have bx := stepB (Below.refl w4.heap.size w4).drew hN5.2
      have K3 : Hid (Rd w5 (.slice (some ⟨w.heap.size, 0, none⟩) 32 32) k) := Rd.kept K2.out bx
      have N3 : Hid (Rd w5 (.slice (some ⟨w1.heap.size, 0, none⟩) 12 12) n) := Rd.kept N2.out bx
      have T3 : Hid (PlT w5) := PlT.kept T2.out bx
      have B3 : Hid (Rd w5 (.slice ab L cb) b) := Rd.kept B2.out bx
      have X3 : Hid (Rd w5 vx (smL k c n b)) := Rd.kept X2.out bx
      have Y3 : Hid (Rd w5 vy b) := Rd.kept Y2.out bx
      have P3 : Hid (Rd w5 vp (smL k c n (b.take m))) := hN5.rd
      have HB3 : Hid _ := stepB HB2.out bx
      clear K2 N2 T2 B2 X2 Y2 HB2 bx hN5
      go_wp2_with fail
      refine wpG_begin (by kernel_rfl) ?_
      refine wpG_take (i := 0) (oi := { dst := some 51, op := Op.slice 37 (Operand.tmp 5) none none none, type := 30, pos := "law.go:70", after := #[], guard := none }) (v := ?_) rfl (by kernel_rfl) (by kernel_rfl) (by kernel_rfl) (by rfl) ?_ ?_
      rotate_left
      · intro W hW; first | (go_simp; done) | (go_simp; with_reducible rfl)
      try simp only [Act.put, List.setIfInBounds_toArray, List.set_cons_zero, List.set_cons_succ]
      refine wpG_take (i := 1) (oi := { dst := some 52, op := Op.move (Operand.tmp 1), type := 22, pos := "law.go:70", after := #[], guard := none }) (v := ?_) rfl (by kernel_rfl) (by kernel_rfl) (by kernel_rfl) (by rfl) ?_ ?_
      rotate_left
      · intro W hW; first | (go_simp; done) | (go_simp; with_reducible rfl)
      try simp only [Act.put, List.setIfInBounds_toArray, List.set_cons_zero, List.set_cons_succ]
      refine wpG_take (i := 2) (oi := { dst := some 53, op := Op.move (Operand.tmp 14), type := 3, pos := "law.go:70", after := #[], guard := none }) (v := ?_) rfl (by kernel_rfl) (by kernel_rfl) (by kernel_rfl) (by rfl) ?_ ?_
      rotate_left
      · intro W hW; first | (go_simp; done) | (go_simp; with_reducible rfl)
      try simp only [Act.put, List.setIfInBounds_toArray, List.set_cons_zero, List.set_cons_succ]
      refine wpG_take (i := 3) (oi := { dst := some 54, op := Op.convert 3 22 (Operand.tmp 53), type := 22, pos := "law.go:70", after := #[{ on := 2, ground := Ground.data }], guard := none }) (v := ?_) rfl (by kernel_rfl) (by kernel_rfl) (by kernel_rfl) (by rfl) ?_ ?_
      rotate_left
      · intro W hW; first | (go_simp; done) | (go_simp; with_reducible rfl)
      try simp only [Act.put, List.setIfInBounds_toArray, List.set_cons_zero, List.set_cons_succ]
      refine wpG_take (i := 4) (oi := { dst := some 55, op := Op.binOp BinOp.add 22 (Operand.tmp 52) (Operand.tmp 54) 22, type := 22, pos := "law.go:70", after := #[{ on := 1, ground := Ground.data }, { on := 3, ground := Ground.data }], guard := none }) (v := ?_) rfl (by kernel_rfl) (by kernel_rfl) (by kernel_rfl) (by rfl) ?_ ?_
      rotate_left
      · intro W hW; first | (go_simp; done) | (go_simp; with_reducible rfl)
      try simp only [Act.put, List.setIfInBounds_toArray, List.set_cons_zero, List.set_cons_succ]
      refine wpG_take (i := 5) (oi := { dst := some 56, op := Op.slice 38 (Operand.tmp 7) none none none, type := 30, pos := "law.go:70", after := #[], guard := none }) (v := ?_) rfl (by kernel_rfl) (by kernel_rfl) (by kernel_rfl) (by rfl) ?_ ?_
      rotate_left
      · intro W hW; first | (go_simp; done) | (go_simp; with_reducible rfl)
      try simp only [Act.put, List.setIfInBounds_toArray, List.set_cons_zero, List.set_cons_succ]
      refine wpG_take (i := 6) (oi := { dst := some 57, op := Op.move (Operand.tmp 3), type := 30, pos := "law.go:70", after := #[], guard := none }) (v := ?_) rfl (by kernel_rfl) (by kernel_rfl) (by kernel_rfl) (by rfl) ?_ ?_
      rotate_left
      · intro W hW; first | (go_simp; done) | (go_simp; with_reducible rfl)
      try simp only [Act.put, List.setIfInBounds_toArray, List.set_cons_zero, List.set_cons_succ]
      refine wpG_take (i := 7) (oi := { dst := some 58, op := Op.move (Operand.tmp 14), type := 3, pos := "law.go:70", after := #[], guard := none }) (v := ?_) rfl (by kernel_rfl) (by kernel_rfl) (by kernel_rfl) (by rfl) ?_ ?_
      rotate_left
      · intro W hW; first | (go_simp; done) | (go_simp; with_reducible rfl)
      try simp only [Act.put, List.setIfInBounds_toArray, List.set_cons_zero, List.set_cons_succ]
      refine wpG_take (i := 8) (oi := { dst := some 59, op := Op.binOp BinOp.mul 3 (Operand.const (Value.int IntKind.i64 64)) (Operand.tmp 58) 3, type := 3, pos := "law.go:70", after := #[{ on := 7, ground := Ground.data }], guard := none }) (v := ?_) rfl (by kernel_rfl) (by kernel_rfl) (by kernel_rfl) (by rfl) ?_ ?_
      rotate_left
      · intro W hW; first | (go_simp; done) | (go_simp; with_reducible rfl)
      try simp only [Act.put, List.setIfInBounds_toArray, List.set_cons_zero, List.set_cons_succ]
      refine wpG_take (i := 9) (oi := { dst := some 60, op := Op.slice 30 (Operand.tmp 57) (some (Operand.tmp 59)) none none, type := 30, pos := "law.go:70", after := #[{ on := 6, ground := Ground.data }, { on := 8, ground := Ground.data }], guard := none }) (v := ?_) rfl (by kernel_rfl) (by kernel_rfl) (by kernel_rfl) (by rfl) ?_ ?_
      rotate_left
      · intro W hW; refine Eq.trans (HT'.out _ _ (by rfl) (by rfl) (by rfl)) ?_; with_reducible rfl
      try simp only [Act.put, List.setIfInBounds_toArray, List.set_cons_zero, List.set_cons_succ]
      refine wpG_do (i := 10) (o := { dst := some 61, op := Op.call { callee := Callee.value (Operand.func 13), args := #[Operand.tmp 51, Operand.tmp 55, Operand.tmp 56, Operand.tmp 60], argTypes := #[30, 22, 30, 30] }, type := 30, pos := "law.go:70", after := #[{ on := 0, ground := Ground.data }, { on := 4, ground := Ground.data }, { on := 5, ground := Ground.data }, { on := 9, ground := Ground.data }], guard := none }) (by kernel_rfl) rfl (by rfl) fun K hK => ?_
      go_simp
      refine (stream_any _ _ _ k n (b.drop m) d _ rfl HD.out _ (PlT.kept T3.out (Below.refl _ _).drew) (Rd.drew K3.out) (Rd.drew N3.out) (hrest _ _ (Rd.drew B3.out)) HK.out HN.out (by rw [List.length_drop, ← HL.out]; omega)).mono ?_
      rintro e w6 ⟨vq, rfl, hN6⟩
      refine hK.out _ _ hN6.2 ?_
      clear hK K
      try simp only [Act.put, List.setIfInBounds_toArray, List.set_cons_zero, List.set_cons_succ]
      refine wpG_take (i := 11) (oi := { dst := some 16, op := Op.assign (Operand.tmp 61), type := 30, pos := "law.go:70", after := #[{ on := 10, ground := Ground.data }, { on := 10, ground := Ground.chain }, { on := 0, ground := Ground.phase }, { on := 1, ground := Ground.phase }, { on := 2, ground := Ground.phase }, { on := 3, ground := Ground.phase }, { on := 4, ground := Ground.phase }, { on := 5, ground := Ground.phase }, { on := 6, ground := Ground.phase }, { on := 7, ground := Ground.phase }, { on := 8, ground := Ground.phase }, { on := 9, ground := Ground.phase }, { on := 10, ground := Ground.phase }], guard := none }) (v := ?_) rfl (by kernel_rfl) (by kernel_rfl) (by kernel_rfl) (by rfl) ?_ ?_
      rotate_left
      · intro W hW; first | (go_simp; done) | (go_simp; with_reducible rfl)
      try simp only [Act.put, List.setIfInBounds_toArray, List.set_cons_zero, List.set_cons_succ]
      refine wpG_done (by kernel_rfl) ?_
      have bx := stepB (Below.refl w5.heap.size w5).drew hN6.2
      have cvb := conv_any (Rd.kept B3.out bx)
      have cvx := conv_any (Rd.kept X3.out bx)
      have cvy := conv_any (Rd.kept Y3.out bx)
      have cvp := conv_any (Rd.kept P3.out bx)
      have cvq := conv_any hN6.rd
      have hadd := fun W => run_string_add_lists (P := Tryd.prog) W (smL k c n (b.take m)) (smL k d n (b.drop m)) (by rw [smL_length, List.length_take]; omega) (by rw [smL_length, List.length_drop, ← HL.out]; omega)
      rw [HP.out] at hadd
      have HB4 : Hid _ := stepB HB3.out bx
      clear K3 N3 T3 B3 X3 Y3 P3 HB3 bx hN6 HP htail hrest
      go_wp2
      go_ret
      exact ⟨rfl, HB4.out⟩
    · obtain ⟨d, m, hd, hdc, hm, f1, f2, f3, f4, f5⟩ := count_facts c X HC.out g3
      obtain rfl : m = M := by rw [hm]; exact HMX.out.symm
      clear f5
      have hmL : m ≤ L := by omega
      have hmI : (m : Int) ≤ (L : Int) := by omega
      obtain ⟨ab', htail, hrest⟩ := exec_tail (L := L) (m := m) hmL hLcb HM.out HNo.out
      have HT' : Hid _ := @htail
      have HP : Hid (smL k c n (b.take m) ++ smL k d n (b.drop m) = smL k c n b) := by
        show _ = _
        rw [smL_congr (c := d) (d := c + X) hdc, hm]
        exact smL_parts k c n b X (by rw [← HL.out]; exact g4)
      have HD : Hid _ := hd
      clear hdc hd hm g3 g4
      go_wp2_with fail
      refine wpG_begin (by kernel_rfl) ?_
      refine wpG_take (i := 0) (oi := { dst := some 43, op := Op.slice 37 (Operand.tmp 5) none none none, type := 30, pos := "law.go:69", after := #[], guard := none }) (v := ?_) rfl (by kernel_rfl) (by kernel_rfl) (by kernel_rfl) (by rfl) ?_ ?_
      rotate_left
      · intro W hW; first | (go_simp; done) | (go_simp; with_reducible rfl)
      try simp only [Act.put, List.setIfInBounds_toArray, List.set_cons_zero, List.set_cons_succ]
      refine wpG_take (i := 1) (oi := { dst := some 44, op := Op.move (Operand.tmp 1), type := 22, pos := "law.go:69", after := #[], guard := none }) (v := ?_) rfl (by kernel_rfl) (by kernel_rfl) (by kernel_rfl) (by rfl) ?_ ?_
      rotate_left
      · intro W hW; first | (go_simp; done) | (go_simp; with_reducible rfl)
      try simp only [Act.put, List.setIfInBounds_toArray, List.set_cons_zero, List.set_cons_succ]
      refine wpG_take (i := 2) (oi := { dst := some 45, op := Op.slice 38 (Operand.tmp 7) none none none, type := 30, pos := "law.go:69", after := #[], guard := none }) (v := ?_) rfl (by kernel_rfl) (by kernel_rfl) (by kernel_rfl) (by rfl) ?_ ?_
      rotate_left
      · intro W hW; first | (go_simp; done) | (go_simp; with_reducible rfl)
      try simp only [Act.put, List.setIfInBounds_toArray, List.set_cons_zero, List.set_cons_succ]
      refine wpG_take (i := 3) (oi := { dst := some 46, op := Op.move (Operand.tmp 3), type := 30, pos := "law.go:69", after := #[], guard := none }) (v := ?_) rfl (by kernel_rfl) (by kernel_rfl) (by kernel_rfl) (by rfl) ?_ ?_
      rotate_left
      · intro W hW; first | (go_simp; done) | (go_simp; with_reducible rfl)
      try simp only [Act.put, List.setIfInBounds_toArray, List.set_cons_zero, List.set_cons_succ]
      refine wpG_take (i := 4) (oi := { dst := some 47, op := Op.move (Operand.tmp 14), type := 3, pos := "law.go:69", after := #[], guard := none }) (v := ?_) rfl (by kernel_rfl) (by kernel_rfl) (by kernel_rfl) (by rfl) ?_ ?_
      rotate_left
      · intro W hW; first | (go_simp; done) | (go_simp; with_reducible rfl)
      try simp only [Act.put, List.setIfInBounds_toArray, List.set_cons_zero, List.set_cons_succ]
      refine wpG_take (i := 5) (oi := { dst := some 48, op := Op.binOp BinOp.mul 3 (Operand.const (Value.int IntKind.i64 64)) (Operand.tmp 47) 3, type := 3, pos := "law.go:69", after := #[{ on := 4, ground := Ground.data }], guard := none }) (v := ?_) rfl (by kernel_rfl) (by kernel_rfl) (by kernel_rfl) (by rfl) ?_ ?_
      rotate_left
      · intro W hW; first | (go_simp; done) | (go_simp; with_reducible rfl)
      try simp only [Act.put, List.setIfInBounds_toArray, List.set_cons_zero, List.set_cons_succ]
      refine wpG_take (i := 6) (oi := { dst := some 49, op := Op.slice 30 (Operand.tmp 46) none (some (Operand.tmp 48)) none, type := 30, pos := "law.go:69", after := #[{ on := 3, ground := Ground.data }, { on := 5, ground := Ground.data }], guard := none }) (v := ?_) rfl (by kernel_rfl) (by kernel_rfl) (by kernel_rfl) (by rfl) ?_ ?_
      rotate_left
      · intro W hW; refine Eq.trans (exec_head _ _ (by rfl) (by rfl) (by rfl) hmL hLcb HM.out HNo.out) ?_; with_reducible rfl
      try simp only [Act.put, List.setIfInBounds_toArray, List.set_cons_zero, List.set_cons_succ]
      refine wpG_do (i := 7) (o := { dst := some 50, op := Op.call { callee := Callee.value (Operand.func 13), args := #[Operand.tmp 43, Operand.tmp 44, Operand.tmp 45, Operand.tmp 49], argTypes := #[30, 22, 30, 30] }, type := 30, pos := "law.go:69", after := #[{ on := 0, ground := Ground.data }, { on := 1, ground := Ground.data }, { on := 2, ground := Ground.data }, { on := 6, ground := Ground.data }], guard := none }) (by kernel_rfl) rfl (by rfl) fun K hK => ?_
      go_simp
      refine (stream_any _ _ _ k n (b.take m) c _ rfl HC.out _ (PlT.kept T2.out (Below.refl _ _).drew) (Rd.drew K2.out) (Rd.drew N2.out) ((Rd.drew B2.out).take hmL) HK.out HN.out (by rw [List.length_take]; omega)).mono ?_
      rintro e w5 ⟨vp, rfl, hN5⟩
      refine hK.out _ _ hN5.2 ?_
      clear hK K
      try simp only [Act.put, List.setIfInBounds_toArray, List.set_cons_zero, List.set_cons_succ]
      refine wpG_take (i := 8) (oi := { dst := some 15, op := Op.assign (Operand.tmp 50), type := 30, pos := "law.go:69", after := #[{ on := 7, ground := Ground.data }, { on := 7, ground := Ground.chain }, { on := 0, ground := Ground.phase }, { on := 1, ground := Ground.phase }, { on := 2, ground := Ground.phase }, { on := 3, ground := Ground.phase }, { on := 4, ground := Ground.phase }, { on := 5, ground := Ground.phase }, { on := 6, ground := Ground.phase }, { on := 7, ground := Ground.phase }], guard := none }) (v := ?_) rfl (by kernel_rfl) (by kernel_rfl) (by kernel_rfl) (by rfl) ?_ ?_
      rotate_left
      · intro W hW; first | (go_simp; done) | (go_simp; with_reducible rfl)
      try simp only [Act.put, List.setIfInBounds_toArray, List.set_cons_zero, List.set_cons_succ]
      refine wpG_done (by kernel_rfl) ?_
      have bx := stepB (Below.refl w4.heap.size w4).drew hN5.2
      have K3 : Hid (Rd w5 (.slice (some ⟨w.heap.size, 0, none⟩) 32 32) k) := Rd.kept K2.out bx
      have N3 : Hid (Rd w5 (.slice (some ⟨w1.heap.size, 0, none⟩) 12 12) n) := Rd.kept N2.out bx
      have T3 : Hid (PlT w5) := PlT.kept T2.out bx
      have B3 : Hid (Rd w5 (.slice ab L cb) b) := Rd.kept B2.out bx
      have X3 : Hid (Rd w5 vx (smL k c n b)) := Rd.kept X2.out bx
      have Y3 : Hid (Rd w5 vy b) := Rd.kept Y2.out bx
      have P3 : Hid (Rd w5 vp (smL k c n (b.take m))) := hN5.rd
      have HB3 : Hid _ := stepB HB2.out bx
      clear K2 N2 T2 B2 X2 Y2 HB2 bx hN5
      go_wp2_with fail
      refine wpG_begin (by kernel_rfl) ?_
      refine wpG_take (i := 0) (oi := { dst := some 51, op := Op.slice 37 (Operand.tmp 5) none none none, type := 30, pos := "law.go:70", after := #[], guard := none }) (v := ?_) rfl (by kernel_rfl) (by kernel_rfl) (by kernel_rfl) (by rfl) ?_ ?_
      rotate_left
      · intro W hW; first | (go_simp; done) | (go_simp; with_reducible rfl)
      try simp only [Act.put, List.setIfInBounds_toArray, List.set_cons_zero, List.set_cons_succ]
      refine wpG_take (i := 1) (oi := { dst := some 52, op := Op.move (Operand.tmp 1), type := 22, pos := "law.go:70", after := #[], guard := none }) (v := ?_) rfl (by kernel_rfl) (by kernel_rfl) (by kernel_rfl) (by rfl) ?_ ?_
      rotate_left
      · intro W hW; first | (go_simp; done) | (go_simp; with_reducible rfl)
      try simp only [Act.put, List.setIfInBounds_toArray, List.set_cons_zero, List.set_cons_succ]
      refine wpG_take (i := 2) (oi := { dst := some 53, op := Op.move (Operand.tmp 14), type := 3, pos := "law.go:70", after := #[], guard := none }) (v := ?_) rfl (by kernel_rfl) (by kernel_rfl) (by kernel_rfl) (by rfl) ?_ ?_
      rotate_left
      · intro W hW; first | (go_simp; done) | (go_simp; with_reducible rfl)
      try simp only [Act.put, List.setIfInBounds_toArray, List.set_cons_zero, List.set_cons_succ]
      refine wpG_take (i := 3) (oi := { dst := some 54, op := Op.convert 3 22 (Operand.tmp 53), type := 22, pos := "law.go:70", after := #[{ on := 2, ground := Ground.data }], guard := none }) (v := ?_) rfl (by kernel_rfl) (by kernel_rfl) (by kernel_rfl) (by rfl) ?_ ?_
      rotate_left
      · intro W hW; first | (go_simp; done) | (go_simp; with_reducible rfl)
      try simp only [Act.put, List.setIfInBounds_toArray, List.set_cons_zero, List.set_cons_succ]
      refine wpG_take (i := 4) (oi := { dst := some 55, op := Op.binOp BinOp.add 22 (Operand.tmp 52) (Operand.tmp 54) 22, type := 22, pos := "law.go:70", after := #[{ on := 1, ground := Ground.data }, { on := 3, ground := Ground.data }], guard := none }) (v := ?_) rfl (by kernel_rfl) (by kernel_rfl) (by kernel_rfl) (by rfl) ?_ ?_
      rotate_left
      · intro W hW; first | (go_simp; done) | (go_simp; with_reducible rfl)
      try simp only [Act.put, List.setIfInBounds_toArray, List.set_cons_zero, List.set_cons_succ]
      refine wpG_take (i := 5) (oi := { dst := some 56, op := Op.slice 38 (Operand.tmp 7) none none none, type := 30, pos := "law.go:70", after := #[], guard := none }) (v := ?_) rfl (by kernel_rfl) (by kernel_rfl) (by kernel_rfl) (by rfl) ?_ ?_
      rotate_left
      · intro W hW; first | (go_simp; done) | (go_simp; with_reducible rfl)
      try simp only [Act.put, List.setIfInBounds_toArray, List.set_cons_zero, List.set_cons_succ]
      refine wpG_take (i := 6) (oi := { dst := some 57, op := Op.move (Operand.tmp 3), type := 30, pos := "law.go:70", after := #[], guard := none }) (v := ?_) rfl (by kernel_rfl) (by kernel_rfl) (by kernel_rfl) (by rfl) ?_ ?_
      rotate_left
      · intro W hW; first | (go_simp; done) | (go_simp; with_reducible rfl)
      try simp only [Act.put, List.setIfInBounds_toArray, List.set_cons_zero, List.set_cons_succ]
      refine wpG_take (i := 7) (oi := { dst := some 58, op := Op.move (Operand.tmp 14), type := 3, pos := "law.go:70", after := #[], guard := none }) (v := ?_) rfl (by kernel_rfl) (by kernel_rfl) (by kernel_rfl) (by rfl) ?_ ?_
      rotate_left
      · intro W hW; first | (go_simp; done) | (go_simp; with_reducible rfl)
      try simp only [Act.put, List.setIfInBounds_toArray, List.set_cons_zero, List.set_cons_succ]
      refine wpG_take (i := 8) (oi := { dst := some 59, op := Op.binOp BinOp.mul 3 (Operand.const (Value.int IntKind.i64 64)) (Operand.tmp 58) 3, type := 3, pos := "law.go:70", after := #[{ on := 7, ground := Ground.data }], guard := none }) (v := ?_) rfl (by kernel_rfl) (by kernel_rfl) (by kernel_rfl) (by rfl) ?_ ?_
      rotate_left
      · intro W hW; first | (go_simp; done) | (go_simp; with_reducible rfl)
      try simp only [Act.put, List.setIfInBounds_toArray, List.set_cons_zero, List.set_cons_succ]
      refine wpG_take (i := 9) (oi := { dst := some 60, op := Op.slice 30 (Operand.tmp 57) (some (Operand.tmp 59)) none none, type := 30, pos := "law.go:70", after := #[{ on := 6, ground := Ground.data }, { on := 8, ground := Ground.data }], guard := none }) (v := ?_) rfl (by kernel_rfl) (by kernel_rfl) (by kernel_rfl) (by rfl) ?_ ?_
      rotate_left
      · intro W hW; refine Eq.trans (HT'.out _ _ (by rfl) (by rfl) (by rfl)) ?_; with_reducible rfl
      try simp only [Act.put, List.setIfInBounds_toArray, List.set_cons_zero, List.set_cons_succ]
      refine wpG_do (i := 10) (o := { dst := some 61, op := Op.call { callee := Callee.value (Operand.func 13), args := #[Operand.tmp 51, Operand.tmp 55, Operand.tmp 56, Operand.tmp 60], argTypes := #[30, 22, 30, 30] }, type := 30, pos := "law.go:70", after := #[{ on := 0, ground := Ground.data }, { on := 4, ground := Ground.data }, { on := 5, ground := Ground.data }, { on := 9, ground := Ground.data }], guard := none }) (by kernel_rfl) rfl (by rfl) fun K hK => ?_
      go_simp
      refine (stream_any _ _ _ k n (b.drop m) d _ rfl HD.out _ (PlT.kept T3.out (Below.refl _ _).drew) (Rd.drew K3.out) (Rd.drew N3.out) (hrest _ _ (Rd.drew B3.out)) HK.out HN.out (by rw [List.length_drop, ← HL.out]; omega)).mono ?_
      rintro e w6 ⟨vq, rfl, hN6⟩
      refine hK.out _ _ hN6.2 ?_
      clear hK K
      try simp only [Act.put, List.setIfInBounds_toArray, List.set_cons_zero, List.set_cons_succ]
      refine wpG_take (i := 11) (oi := { dst := some 16, op := Op.assign (Operand.tmp 61), type := 30, pos := "law.go:70", after := #[{ on := 10, ground := Ground.data }, { on := 10, ground := Ground.chain }, { on := 0, ground := Ground.phase }, { on := 1, ground := Ground.phase }, { on := 2, ground := Ground.phase }, { on := 3, ground := Ground.phase }, { on := 4, ground := Ground.phase }, { on := 5, ground := Ground.phase }, { on := 6, ground := Ground.phase }, { on := 7, ground := Ground.phase }, { on := 8, ground := Ground.phase }, { on := 9, ground := Ground.phase }, { on := 10, ground := Ground.phase }], guard := none }) (v := ?_) rfl (by kernel_rfl) (by kernel_rfl) (by kernel_rfl) (by rfl) ?_ ?_
      rotate_left
      · intro W hW; first | (go_simp; done) | (go_simp; with_reducible rfl)
      try simp only [Act.put, List.setIfInBounds_toArray, List.set_cons_zero, List.set_cons_succ]
      refine wpG_done (by kernel_rfl) ?_
      have bx := stepB (Below.refl w5.heap.size w5).drew hN6.2
      have cvb := conv_any (Rd.kept B3.out bx)
      have cvx := conv_any (Rd.kept X3.out bx)
      have cvy := conv_any (Rd.kept Y3.out bx)
      have cvp := conv_any (Rd.kept P3.out bx)
      have cvq := conv_any hN6.rd
      have hadd := fun W => run_string_add_lists (P := Tryd.prog) W (smL k c n (b.take m)) (smL k d n (b.drop m)) (by rw [smL_length, List.length_take]; omega) (by rw [smL_length, List.length_drop, ← HL.out]; omega)
      rw [HP.out] at hadd
      have HB4 : Hid _ := stepB HB3.out bx
      clear K3 N3 T3 B3 X3 Y3 P3 HB3 bx hN6 HP htail hrest
      go_wp2
      go_ret
      exact ⟨rfl, HB4.out⟩
  · have d1 : decide ((2000 : Int) < (L : Int)) = true := decide_eq_true (by omega)
    have g1 : (2000 : Int) < (L : Int) := by omega
    go_wp2
    go_ret
    exact ⟨rfl, HB.out⟩
end Go.Proofs.YtlggnknblfclkaaDoor
