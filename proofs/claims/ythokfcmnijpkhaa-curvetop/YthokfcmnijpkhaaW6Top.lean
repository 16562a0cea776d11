/- What the law CurveTop answers at every input: the walk. -/
import Derived.Test.YthokfcmnijpkhaaW6Agrees
namespace Go.Proofs.Ythokfcmnijpkhaa
open Go.ChangeShapes Go.WideShapes Go.ChangeAt Go.RowKit
set_option linter.unusedSimpArgs false
set_option linter.unusedVariables false

theorem top_bit (y : UInt8) : (y ^^^ 128).toNat % 128 = y.toNat % 128 := by
  have h : ∀ n : Fin 256, ((UInt8.ofNat n.val) ^^^ 128).toNat % 128 = (UInt8.ofNat n.val).toNat % 128 := by decide +kernel
  have := h ⟨y.toNat, y.toNat_lt⟩
  simpa using this
theorem dec_turn (b : List UInt8) (h : b.length = 32) : decN (b.set 31 (b.getD 31 0 ^^^ 128)) = decN b := by
  have e0 : b = b.take 31 ++ [b.getD 31 0] := by
    have h1 := List.take_succ_eq_append_getElem (l := b) (i := 31) (by omega)
    rw [List.take_of_length_le (by omega)] at h1
    have h2 : b.getD 31 0 = b[31] := by simp [h]
    rw [h2]
    exact h1
  have hl : (b.take 31).length = 31 := by rw [List.length_take]; omega
  have key : ∀ y : UInt8, leN (b.take 31 ++ [y]) % 57896044618658097711785492504343953926634992332820282019728792003956564819968 = (leN (b.take 31) + 256 ^ 31 * (y.toNat % 128)) % 57896044618658097711785492504343953926634992332820282019728792003956564819968 := by
    intro y
    rw [leN_snoc, hl]
    have := y.toNat_lt
    generalize leN (b.take 31) = q
    generalize y.toNat = t
    omega
  have e1 : (b.set 31 (b.getD 31 0 ^^^ 128)).take 32 = b.take 31 ++ [b.getD 31 0 ^^^ 128] := by
    rw [List.take_of_length_le (by rw [List.length_set]; omega)]
    have e2 : b.set 31 (b.getD 31 0 ^^^ 128) = (b.take 31 ++ [b.getD 31 0]).set 31 (b.getD 31 0 ^^^ 128) := by rw [← e0]
    rw [e2, List.set_append_right _ _ (by omega), hl]
    rfl
  unfold decN
  rw [e1, key, top_bit, ← key, ← e0, List.take_of_length_le (by omega)]
theorem low_bits (y z : UInt8) : (y ^^^ (z &&& 7)).toNat / 8 * 8 = y.toNat / 8 * 8 := by
  have h : ∀ n m : Fin 256, (UInt8.ofNat n.val ^^^ (UInt8.ofNat m.val &&& 7)).toNat / 8 * 8 = (UInt8.ofNat n.val).toNat / 8 * 8 := by decide +kernel
  have := h ⟨y.toNat, y.toNat_lt⟩ ⟨z.toNat, z.toNat_lt⟩
  simpa using this
theorem high_bits (y z : UInt8) : (y ^^^ (z &&& 192)).toNat % 64 + 64 = y.toNat % 64 + 64 := by
  have h : ∀ n m : Fin 256, (UInt8.ofNat n.val ^^^ (UInt8.ofNat m.val &&& 192)).toNat % 64 + 64 = (UInt8.ofNat n.val).toNat % 64 + 64 := by decide +kernel
  have := h ⟨y.toNat, y.toNat_lt⟩ ⟨z.toNat, z.toNat_lt⟩
  simpa using this
theorem get_set_ne (k : List UInt8) (i j : Nat) (h : i ≠ j) (x : UInt8) : (k.set i x).getD j 0 = k.getD j 0 := by
  rw [List.getD_eq_getElem?_getD, List.getElem?_set_ne h, ← List.getD_eq_getElem?_getD]
theorem get_set_eq (k : List UInt8) (i : Nat) (h : i < k.length) (x : UInt8) : (k.set i x).getD i 0 = x := by
  simp [h]
theorem clamp_turn (k : List UInt8) (h : k.length = 32) (z : UInt8) : clL ((k.set 0 (k.getD 0 0 ^^^ (z &&& 7))).set 31 (k.getD 31 0 ^^^ (z &&& 192))) = clL k := by
  unfold clL
  rw [get_set_ne _ 31 0 (by decide), get_set_eq k 0 (by omega), get_set_eq _ 31 (by rw [List.length_set]; omega), low_bits, high_bits]
  rw [List.set_comm _ _ (by decide : (0 : Nat) ≠ 31), List.set_set, List.set_comm _ _ (by decide : (31 : Nat) ≠ 0), List.set_set]
/-- What a call made stays where only older blocks are written. -/
theorem New.over {S : Nat → Prop} {e : TypeId} {w wr w2 : World} {v : Value} {l : List UInt8} (h : New e w v l wr) (c : Chg S wr w2) (hS : ∀ b, S b → b < w.heap.size) : Rd w2 v l := by
  refine Rd.of_row (own_chg h.1 c fun g hg hs => ?_)
  rcases h.1.2 with ⟨rfl, -⟩ | ⟨g', cap, cur, rfl, hb, -⟩
  · simp [Value.ownBlock] at hg
  · have h1 : g' = g := by simpa [Value.ownBlock] using hg
    have h2 := hS g hs
    omega

set_option maxRecDepth 100000 in
set_option maxHeartbeats 4000000 in
theorem top_walk (Ka : Array Value) (k : List UInt8) (hk : k.length = 32) (hKa : Ka = ((byI k).map (Value.int .u8)).toArray) (Ua : Array Value) (u : List UInt8) (hu : u.length = 32) (hUa : Ua = ((byI u).map (Value.int .u8)).toArray) (z : UInt8) (Z : Int) (hZ : Z = (z.toNat : Int)) (w : World) :
    Calls Try.prog 7 #[.agg Ka, .agg Ua, .int .u8 Z] w fun e w' => e = .returned (.bool true) ∧ Below w.heap.size w w' := by
  subst hZ
  have HK : Hid (k.length = 32) := hk
  have HU : Hid (u.length = 32) := hu
  go_enter Try.func7, Try.ntmps7
  go_wp2_with (refine wpList_box_row (k := .u8) rfl 31 _ rfl (byI k) (by rw [← hKa]; rfl) (ne32 hk) (max32 hk) ?_)
  intro w1 rk bn sn
  rw [byI_length, hk] at rk
  have hbw := bn
  have n1 : w.heap.size < w1.heap.size := by have := sn.out; omega
  clear bn sn hKa hk
  go_wp2_with (refine wpList_box_row (k := .u8) rfl 31 _ rfl (byI u) (by rw [← hUa]; rfl) (ne32 hu) (max32 hu) ?_)
  intro w2 ru bn sn
  rw [byI_length, hu] at ru
  replace rk := rk.kept bn
  replace hbw := stepB hbw bn
  clear bn sn hUa hu
  go_wp2_with fail
  refine (awake_any _).mono ?_
  rintro e wa ⟨rfl, bn⟩
  replace rk := (rk.kept bn).drew
  replace ru := (ru.kept bn).drew
  replace hbw := (stepB hbw bn).drew
  clear bn
  have kk := rk.rdB
  have ku := ru.rdB
  rw [HK.out] at kk
  rw [HU.out] at ku
  have zk := rk.lt
  have zu := ru.lt
  go_wp2_with fail
  refine wpG_begin (by kernel_rfl) ?_
  refine wpG_take (i := 0) (oi := { dst := some 16, op := Op.slice 31 (Operand.tmp 3) none none none, type := 22, pos := "law.go:86", after := #[], guard := none }) (v := ?_) rfl (by kernel_rfl) (by kernel_rfl) (by kernel_rfl) (by rfl) ?_ ?_
  rotate_left
  · intro W hW; first | (go_simp; done) | (go_simp; with_reducible rfl)
  try simp only [Act.put, List.setIfInBounds_toArray, List.set_cons_zero, List.set_cons_succ]
  refine wpG_take (i := 1) (oi := { dst := some 17, op := Op.slice 31 (Operand.tmp 4) none none none, type := 22, pos := "law.go:86", after := #[], guard := none }) (v := ?_) rfl (by kernel_rfl) (by kernel_rfl) (by kernel_rfl) (by rfl) ?_ ?_
  rotate_left
  · intro W hW; first | (go_simp; done) | (go_simp; with_reducible rfl)
  try simp only [Act.put, List.setIfInBounds_toArray, List.set_cons_zero, List.set_cons_succ]
  refine wpG_do (i := 2) (o := { dst := some 18, op := Op.call { callee := Callee.value (Operand.func 10), args := #[Operand.tmp 16, Operand.tmp 17], argTypes := #[22, 22] }, type := 25, pos := "law.go:86", after := #[{ on := 0, ground := Ground.data }, { on := 1, ground := Ground.data }], guard := none }) (by kernel_rfl) rfl (by rfl) fun K hK => ?_
  go_simp
  refine (scalar_any _ _ k u _ kk ku HK.out HU.out).mono ?_
  rintro e w3 ⟨vx, rfl, hN⟩
  refine hK.out _ _ hN.2 ?_
  clear hK K
  try simp only [Act.put, List.setIfInBounds_toArray, List.set_cons_zero, List.set_cons_succ]
  refine wpG_take (i := 3) (oi := { dst := some 15, op := Op.move (Operand.tmp 18), type := 25, pos := "law.go:86", after := #[{ on := 2, ground := Ground.data }], guard := none }) (v := ?_) rfl (by kernel_rfl) (by kernel_rfl) (by kernel_rfl) (by rfl) ?_ ?_
  rotate_left
  · intro W hW; first | (go_simp; done) | (go_simp; with_reducible rfl)
  try simp only [Act.put, List.setIfInBounds_toArray, List.set_cons_zero, List.set_cons_succ]
  refine wpG_take (i := 4) (oi := { dst := some 19, op := Op.extract (Operand.tmp 15) 0, type := 22, pos := "law.go:86", after := #[{ on := 3, ground := Ground.data }], guard := none }) (v := ?_) rfl (by kernel_rfl) (by kernel_rfl) (by kernel_rfl) (by rfl) ?_ ?_
  rotate_left
  · intro W hW; first | (go_simp; done) | (go_simp; with_reducible rfl)
  try simp only [Act.put, List.setIfInBounds_toArray, List.set_cons_zero, List.set_cons_succ]
  refine wpG_take (i := 5) (oi := { dst := some 20, op := Op.extract (Operand.tmp 15) 1, type := 24, pos := "law.go:86", after := #[{ on := 3, ground := Ground.data }, { on := 6, ground := Ground.gcOnly Departure.lateStores }], guard := none }) (v := ?_) rfl (by kernel_rfl) (by kernel_rfl) (by kernel_rfl) (by rfl) ?_ ?_
  rotate_left
  · intro W hW; first | (go_simp; done) | (go_simp; with_reducible rfl)
  try simp only [Act.put, List.setIfInBounds_toArray, List.set_cons_zero, List.set_cons_succ]
  refine wpG_take (i := 6) (oi := { dst := some 8, op := Op.assign (Operand.tmp 19), type := 22, pos := "law.go:86", after := #[{ on := 4, ground := Ground.data }, { on := 2, ground := Ground.chain }, { on := 0, ground := Ground.phase }, { on := 1, ground := Ground.phase }, { on := 2, ground := Ground.phase }, { on := 3, ground := Ground.phase }, { on := 4, ground := Ground.phase }, { on := 5, ground := Ground.textOnly Departure.lateStores }], guard := none }) (v := ?_) rfl (by kernel_rfl) (by kernel_rfl) (by kernel_rfl) (by rfl) ?_ ?_
  rotate_left
  · intro W hW; first | (go_simp; done) | (go_simp; with_reducible rfl)
  try simp only [Act.put, List.setIfInBounds_toArray, List.set_cons_zero, List.set_cons_succ]
  refine wpG_take (i := 7) (oi := { dst := some 9, op := Op.assign (Operand.tmp 20), type := 24, pos := "law.go:86", after := #[{ on := 5, ground := Ground.data }, { on := 6, ground := Ground.chain }, { on := 0, ground := Ground.phase }, { on := 1, ground := Ground.phase }, { on := 2, ground := Ground.phase }, { on := 3, ground := Ground.phase }, { on := 4, ground := Ground.phase }, { on := 5, ground := Ground.phase }, { on := 6, ground := Ground.phase }], guard := none }) (v := ?_) rfl (by kernel_rfl) (by kernel_rfl) (by kernel_rfl) (by rfl) ?_ ?_
  rotate_left
  · intro W hW; first | (go_simp; done) | (go_simp; with_reducible rfl)
  try simp only [Act.put, List.setIfInBounds_toArray, List.set_cons_zero, List.set_cons_succ]
  refine wpG_done (by kernel_rfl) ?_
  replace rk := rk.kept hN.2
  replace ru := ru.kept hN.2
  replace hbw := stepB hbw hN.2
  clear kk ku
  have cu := ru.cellB (j := 31) (by rw [HU.out]; decide)
  have fu := ru.free 31
  have ck0 := rk.cellB (j := 0) (by rw [HK.out]; decide)
  have fk0 := rk.free 0
  have ck1 := rk.cellB (j := 31) (by rw [HK.out]; decide)
  have fk1 := rk.free 31
  obtain ⟨yu, hyu⟩ : ∃ y : UInt8, y = u.getD 31 0 := ⟨_, rfl⟩
  obtain ⟨y0, hy0⟩ : ∃ y : UInt8, y = k.getD 0 0 := ⟨_, rfl⟩
  obtain ⟨y1, hy1⟩ : ∃ y : UInt8, y = k.getD 31 0 := ⟨_, rfl⟩
  have HD := dec_turn u HU.out
  have HC := clamp_turn k HK.out z
  rw [← hyu] at cu HD
  rw [← hy0] at ck0 HC
  rw [← hy1] at ck1 HC
  obtain ⟨q1, hq1⟩ : ∃ q : UInt8, q = yu ^^^ 128 := ⟨_, rfl⟩
  obtain ⟨m2, hm2⟩ : ∃ q : UInt8, q = z &&& 7 := ⟨_, rfl⟩
  obtain ⟨m3, hm3⟩ : ∃ q : UInt8, q = z &&& 192 := ⟨_, rfl⟩
  obtain ⟨q2, hq2⟩ : ∃ q : UInt8, q = y0 ^^^ m2 := ⟨_, rfl⟩
  obtain ⟨q3, hq3⟩ : ∃ q : UInt8, q = y1 ^^^ m3 := ⟨_, rfl⟩
  rw [← hm2, ← hm3, ← hq2, ← hq3] at HC
  rw [← hq1] at HD
  have x1 : bits .xor .u8 ((yu.toNat : Nat) : Int) 128 = ((q1.toNat : Nat) : Int) := by rw [hq1]; exact byte_xor yu 128
  have x2 : bits .and .u8 ((z.toNat : Nat) : Int) 7 = ((m2.toNat : Nat) : Int) := by rw [hm2]; exact byte_and z 7
  have x3 : bits .and .u8 ((z.toNat : Nat) : Int) 192 = ((m3.toNat : Nat) : Int) := by rw [hm3]; exact byte_and z 192
  have x4 : bits .xor .u8 ((y0.toNat : Nat) : Int) ((m2.toNat : Nat) : Int) = ((q2.toNat : Nat) : Int) := by rw [hq2]; exact byte_xor y0 _
  have x5 : bits .xor .u8 ((y1.toNat : Nat) : Int) ((m3.toNat : Nat) : Int) = ((q3.toNat : Nat) : Int) := by rw [hq3]; exact byte_xor y1 _
  have HS : Hid (scN ((k.set 0 q2).set 31 q3) (u.set 31 q1) = scN k u) := scN_congr HC (by rw [HD])
  have lu := ru.lt
  have lk := rk.lt
  have ru2 := ru.setB 31 q1
  have rk2 := rk.other (p := ⟨w1.heap.size, 31, none⟩) (by show w1.heap.size ≠ _; omega) (.int .u8 ((q1.toNat : Nat) : Int))
  have b2 := (Wrote.set w1.heap.size 31 w3 (.int .u8 ((q1.toNat : Nat) : Int))).below _ _ (by omega) hbw
  have rk3 := rk2.setB 0 q2
  have ru3 := ru2.other (p := ⟨w.heap.size, 0, none⟩) (by show w.heap.size ≠ _; omega) (.int .u8 ((q2.toNat : Nat) : Int))
  have b3 := (Wrote.set w.heap.size 0 _ (.int .u8 ((q2.toNat : Nat) : Int))).below _ _ (Nat.le_refl _) b2
  have rk4 := rk3.setB 31 q3
  have ru4 := ru3.other (p := ⟨w.heap.size, 31, none⟩) (by show w.heap.size ≠ _; omega) (.int .u8 ((q3.toNat : Nat) : Int))
  have b4 := (Wrote.set w.heap.size 31 _ (.int .u8 ((q3.toNat : Nat) : Int))).below _ _ (Nat.le_refl _) b3
  have bx := ((Chg.of_wrote (Wrote.set w1.heap.size 31 w3 (.int .u8 ((q1.toNat : Nat) : Int)))).mono (T := fun b => b = w.heap.size ∨ b = w1.heap.size) (fun _ _ h => .inr h)).trans (((Chg.of_wrote (Wrote.set w.heap.size 0 _ (.int .u8 ((q2.toNat : Nat) : Int)))).mono (T := fun b => b = w.heap.size ∨ b = w1.heap.size) (fun _ _ h => .inl h)).trans ((Chg.of_wrote (Wrote.set w.heap.size 31 _ (.int .u8 ((q3.toNat : Nat) : Int)))).mono (T := fun b => b = w.heap.size ∨ b = w1.heap.size) (fun _ _ h => .inl h)))
  have d0 := rk2.cellB (j := 0) (by rw [HK.out]; decide)
  have d1 := rk3.cellB (j := 31) (by rw [List.length_set, HK.out]; decide)
  rw [← hy0] at d0
  rw [get_set_ne _ 0 31 (by decide), ← hy1] at d1
  have e0 := rk2.free 0
  have e1 := rk3.free 31
  have kk := rk4.rdB
  have ku := ru4.rdB
  rw [List.length_set, List.length_set, HK.out] at kk
  rw [List.length_set, HU.out] at ku
  have kx := hN.over bx (fun b hb => by rcases hb with rfl | rfl <;> assumption)
  have HKK : Hid (Rd _ _ _) := kk.drew
  have HKU : Hid (Rd _ _ _) := ku.drew
  have HKX : Hid (Rd _ _ _) := kx.drew
  have HBW : Hid (Below _ _ _) := b4.drew
  have hne : w1.heap.size ≠ w.heap.size := by omega
  have hne' : w.heap.size ≠ w1.heap.size := by omega
  clear hyu hy0 hy1 hq1 hm2 hm3 hq2 hq3 HD HC rk ru rk2 ru2 rk3 ru3 rk4 ru4 b2 b3 b4 bx kk ku kx hN hbw lu lk zk zu n1
  go_wp2_with fail
  refine wpG_begin (by kernel_rfl) ?_
  refine wpG_take (i := 0) (oi := { dst := some 38, op := Op.slice 31 (Operand.tmp 3) none none none, type := 22, pos := "law.go:90", after := #[], guard := none }) (v := ?_) rfl (by kernel_rfl) (by kernel_rfl) (by kernel_rfl) (by rfl) ?_ ?_
  rotate_left
  · intro W hW; first | (go_simp; done) | (go_simp; with_reducible rfl)
  try simp only [Act.put, List.setIfInBounds_toArray, List.set_cons_zero, List.set_cons_succ]
  refine wpG_take (i := 1) (oi := { dst := some 39, op := Op.slice 31 (Operand.tmp 4) none none none, type := 22, pos := "law.go:90", after := #[], guard := none }) (v := ?_) rfl (by kernel_rfl) (by kernel_rfl) (by kernel_rfl) (by rfl) ?_ ?_
  rotate_left
  · intro W hW; first | (go_simp; done) | (go_simp; with_reducible rfl)
  try simp only [Act.put, List.setIfInBounds_toArray, List.set_cons_zero, List.set_cons_succ]
  refine wpG_do (i := 2) (o := { dst := some 40, op := Op.call { callee := Callee.value (Operand.func 10), args := #[Operand.tmp 38, Operand.tmp 39], argTypes := #[22, 22] }, type := 25, pos := "law.go:90", after := #[{ on := 0, ground := Ground.data }, { on := 1, ground := Ground.data }], guard := none }) (by kernel_rfl) rfl (by rfl) fun K hK => ?_
  go_simp
  refine (scalar_any _ _ _ _ _ HKK.out HKU.out (by rw [List.length_set, List.length_set, HK.out]) (by rw [List.length_set, HU.out])).mono ?_
  rintro e w4 ⟨vy, rfl, hN⟩
  refine hK.out _ _ hN.2 ?_
  clear hK K
  try simp only [Act.put, List.setIfInBounds_toArray, List.set_cons_zero, List.set_cons_succ]
  refine wpG_take (i := 3) (oi := { dst := some 37, op := Op.move (Operand.tmp 40), type := 25, pos := "law.go:90", after := #[{ on := 2, ground := Ground.data }], guard := none }) (v := ?_) rfl (by kernel_rfl) (by kernel_rfl) (by kernel_rfl) (by rfl) ?_ ?_
  rotate_left
  · intro W hW; first | (go_simp; done) | (go_simp; with_reducible rfl)
  try simp only [Act.put, List.setIfInBounds_toArray, List.set_cons_zero, List.set_cons_succ]
  refine wpG_take (i := 4) (oi := { dst := some 41, op := Op.extract (Operand.tmp 37) 0, type := 22, pos := "law.go:90", after := #[{ on := 3, ground := Ground.data }], guard := none }) (v := ?_) rfl (by kernel_rfl) (by kernel_rfl) (by kernel_rfl) (by rfl) ?_ ?_
  rotate_left
  · intro W hW; first | (go_simp; done) | (go_simp; with_reducible rfl)
  try simp only [Act.put, List.setIfInBounds_toArray, List.set_cons_zero, List.set_cons_succ]
  refine wpG_take (i := 5) (oi := { dst := some 42, op := Op.extract (Operand.tmp 37) 1, type := 24, pos := "law.go:90", after := #[{ on := 3, ground := Ground.data }, { on := 6, ground := Ground.gcOnly Departure.lateStores }], guard := none }) (v := ?_) rfl (by kernel_rfl) (by kernel_rfl) (by kernel_rfl) (by rfl) ?_ ?_
  rotate_left
  · intro W hW; first | (go_simp; done) | (go_simp; with_reducible rfl)
  try simp only [Act.put, List.setIfInBounds_toArray, List.set_cons_zero, List.set_cons_succ]
  refine wpG_take (i := 6) (oi := { dst := some 10, op := Op.assign (Operand.tmp 41), type := 22, pos := "law.go:90", after := #[{ on := 4, ground := Ground.data }, { on := 2, ground := Ground.chain }, { on := 0, ground := Ground.phase }, { on := 1, ground := Ground.phase }, { on := 2, ground := Ground.phase }, { on := 3, ground := Ground.phase }, { on := 4, ground := Ground.phase }, { on := 5, ground := Ground.textOnly Departure.lateStores }], guard := none }) (v := ?_) rfl (by kernel_rfl) (by kernel_rfl) (by kernel_rfl) (by rfl) ?_ ?_
  rotate_left
  · intro W hW; first | (go_simp; done) | (go_simp; with_reducible rfl)
  try simp only [Act.put, List.setIfInBounds_toArray, List.set_cons_zero, List.set_cons_succ]
  refine wpG_take (i := 7) (oi := { dst := some 11, op := Op.assign (Operand.tmp 42), type := 24, pos := "law.go:90", after := #[{ on := 5, ground := Ground.data }, { on := 6, ground := Ground.chain }, { on := 0, ground := Ground.phase }, { on := 1, ground := Ground.phase }, { on := 2, ground := Ground.phase }, { on := 3, ground := Ground.phase }, { on := 4, ground := Ground.phase }, { on := 5, ground := Ground.phase }, { on := 6, ground := Ground.phase }], guard := none }) (v := ?_) rfl (by kernel_rfl) (by kernel_rfl) (by kernel_rfl) (by rfl) ?_ ?_
  rotate_left
  · intro W hW; first | (go_simp; done) | (go_simp; with_reducible rfl)
  try simp only [Act.put, List.setIfInBounds_toArray, List.set_cons_zero, List.set_cons_succ]
  refine wpG_done (by kernel_rfl) ?_
  have kx := HKX.out.kept hN.2
  have hbw := stepB HBW.out hN.2
  have ky := hN.rd
  rw [HS.out] at ky
  clear hN HKX HKK HKU HBW HS cu fu ck0 fk0 ck1 fk1 d0 d1 e0 e1 x1 x2 x3 x4 x5
  generalize enL (scN k u) = L at kx ky
  have hcv1 := conv_any kx
  have hcv2 := conv_any ky
  clear kx ky
  go_wp2
  go_ret
  exact ⟨rfl, hbw⟩
end Go.Proofs.Ythokfcmnijpkhaa
