/- What the law AeadBack answers at every input: the walk. -/
import Derived.Test.YtenljbljaffehaaDoorA09e
import Derived.Test.YtenljbljaffehaaDoorBase
namespace Go.Proofs.YtenljbljaffehaaDoor
open Go.ChangeShapes Go.WideShapes Go.ChangeAt Go.RowKit
set_option linter.unusedSimpArgs false
set_option linter.unusedVariables false

theorem max_arr {l : List UInt8} {n : Nat} (h : l.length = n) (hn : n ≤ 1000) : (byI l).length ≤ maxLen := by
  rw [byI_length, h]
  unfold maxLen
  omega
theorem ne_arr {l : List UInt8} {n : Nat} (h : l.length = n) (hn : 0 < n) : byI l ≠ [] := byI_ne (by rw [← List.length_pos_iff]; omega)
theorem and_fifteen (z : Int) : ∃ x : Nat, x ≤ 15 ∧ bits .and .i64 z 15 = (x : Int) := by
  obtain ⟨x, h1, h2⟩ := and_small z 15 (by decide)
  exact ⟨x, h1, h2⟩
theorem byte_in {n : Int} (h : (Lit.int .u8 n).wf = true) : ∃ x : UInt8, n = (x.toNat : Int) := by
  have := wf_u8 h
  refine ⟨UInt8.ofNat n.toNat, ?_⟩
  rw [UInt8.toNat_ofNat']
  omega
/-- What opening answers where one byte of the tag is turned. -/
theorem opA_turned {k n : List UInt8} (h : fitN k n) (a c g t : List UInt8) (hg : g.length = 16) (htag : tgL k n a c = g) (hback : smL k 1 n c = t) (j : Nat) (hj : j ≤ 15) (y : UInt8) :
    opA k n a (c ++ g.set j (g.getD j 0 ^^^ y)) = if y = 0 then (t, 0) else ([], 10) := by
  by_cases hy : y = 0
  · rw [if_pos hy, hy, UInt8.xor_zero]
    have e : g.set j (g.getD j 0) = g := by
      have hj2 : j < g.length := by omega
      rw [show g.getD j 0 = g[j] by simp [hj2]]
      exact List.set_getElem_self hj2
    rw [e, opA_ok h _ _ _ hg htag, hback]
  · rw [if_neg hy]
    exact opA_bad h _ _ _ (by rw [List.length_set, hg]) (by rw [htag]; exact set_other g j (by omega) y hy)

set_option maxRecDepth 100000 in
set_option maxHeartbeats 4000000 in
theorem back_walk (Ka : Array Value) (k : List UInt8) (hk : k.length = 32) (hKa : Ka = ((byI k).map (Value.int .u8)).toArray) (Na : Array Value) (n : List UInt8) (hn : n.length = 12) (hNa : Na = ((byI n).map (Value.int .u8)).toArray)
    (va : Value) (a : List UInt8) (vb : Value) (b : List UInt8) (z : Int) (T : Int) (hT : (Lit.int .u8 T).wf = true) (w : World) (ha : Rd w va a) (hb : Rd w vb b) (hp : PlT w) (ht : KpT w) :
    Calls Tryd.prog 5 #[.agg Ka, .agg Na, va, vb, .int .i64 z, .int .u8 T] w fun e w' => e = .returned (.bool true) ∧ Below w.heap.size w w' := by
  obtain ⟨y, rfl⟩ := byte_in hT
  obtain ⟨aa, ca, rfl, -, hma, -, -⟩ := id ha
  obtain ⟨ab, cb, rfl, -, hmb, -, -⟩ := id hb
  unfold maxLen at hma hmb
  obtain ⟨X, hX, hXa⟩ := and_fifteen z
  obtain ⟨L, hL⟩ : ∃ L : Nat, L = b.length := ⟨_, rfl⟩
  rw [← hL] at hb ⊢
  have HL : Hid (L = b.length) := hL
  have HF : Hid (fitN k n) := ⟨hk, hn⟩
  have HK : Hid (k.length = 32) := hk
  have HN : Hid (n.length = 12) := hn
  have HX : Hid (X ≤ 15) := hX
  clear hT hL hX
  go_enter Tryd.func5, Tryd.ntmps5
  go_wp2_with (refine wpList_box_row (k := .u8) rfl 31 _ rfl (byI k) (by rw [← hKa]; rfl) (ne_arr hk (by decide)) (max_arr hk (by decide)) ?_)
  intro w1 rk bn sn
  rw [byI_length, hk] at rk
  have hbw := bn
  clear bn sn hKa hk
  go_wp2_with (refine wpList_box_row (k := .u8) rfl 32 _ rfl (byI n) (by rw [← hNa]; rfl) (ne_arr hn (by decide)) (max_arr hn (by decide)) ?_)
  intro w2 rn bn sn
  rw [byI_length, hn] at rn
  replace rk := rk.kept bn
  replace hbw := stepB hbw bn
  clear bn sn hNa hn
  go_wp2_with fail
  refine (awake_any _ (hp.kept hbw) (ht.kept hbw)).mono ?_
  rintro e wa ⟨rfl, bn⟩
  replace rk := rk.kept bn
  replace rn := rn.kept bn
  replace hbw := stepB hbw bn
  have kk := rk.rdB
  have kn := rn.rdB
  rw [HK.out] at kk
  rw [HN.out] at kn
  have K0 : Hid (Rd wa (.slice (some ⟨w.heap.size, 0, none⟩) 32 32) k) := kk
  have N0 : Hid (Rd wa (.slice (some ⟨w1.heap.size, 0, none⟩) 12 12) n) := kn
  have P0 : Hid (PlT wa) := hp.kept hbw
  have T0 : Hid (KpT wa) := ht.kept hbw
  have A0 : Hid (Rd wa (.slice aa a.length ca) a) := ha.kept hbw
  have B0 : Hid (Rd wa (.slice ab L cb) b) := hb.kept hbw
  have HB : Hid (Below w.heap.size w wa) := hbw
  clear bn hp ht rk rn kk kn ha hb hbw
  by_cases hla : a.length ≤ 1000
  · have da : decide ((1000 : Int) < (a.length : Int)) = false := decide_eq_false (by omega)
    by_cases hlb : L ≤ 1000
    · have db : decide ((1000 : Int) < (L : Int)) = false := decide_eq_false (by omega)
      have HLA : Hid (a.length ≤ 3000000) := by show _ ≤ _; omega
      have HLB : Hid (b.length ≤ 3000000) := by show _ ≤ _; rw [← HL.out]; omega
      obtain ⟨M, hM⟩ : ∃ M : Nat, M = L + 16 := ⟨_, rfl⟩
      obtain ⟨Q, hQ⟩ : ∃ Q : Nat, Q = L + X := ⟨_, rfl⟩
      have eM : IntKind.i64.wrap ((L : Int) + 16) = (M : Int) := by rw [IntWalk.i64_in _ (by omega)]; omega
      have eM2 : (L : Int) + 16 = (M : Int) := by omega
      have hXX := HX.out
      have eQ : IntKind.i64.wrap ((L : Int) + (X : Int)) = (Q : Int) := by rw [IntWalk.i64_in _ (by omega)]; omega
      have eQ2 : (L : Int) + (X : Int) = (Q : Int) := by omega
      have hQM : Q < M := by omega
      have hQM2 : (Q : Int) < (M : Int) := by omega
      have HM : Hid (M = L + 16) := hM
      have HQ : Hid (Q = L + X) := hQ
      have HLL : Hid (L ≤ 1000) := hlb
      obtain ⟨c, g, hS, hc, hg, htag, hback⟩ := seL_parts k n a b
      have HS : Hid (seA k n a b = (c ++ g, 0)) := by show _ = _; rw [seA_fit HF.out, hS]
      have HC : Hid (c.length = L) := by show _ = _; rw [hc, HL.out]
      have HG : Hid (g.length = 16) := hg
      have HO : Hid (opA k n a (c ++ g) = (b, 0)) := by show _ = _; rw [opA_ok HF.out _ _ _ hg htag, hback]
      have HO2 : Hid (opA k n a (c ++ g.set X (g.getD X 0 ^^^ y)) = if y = 0 then (b, 0) else ([], 10)) := opA_turned HF.out a c g b hg htag hback X HX.out y
      have HLX : Hid ((c ++ g).length = M) := by show _ = _; rw [List.length_append, HC.out, HG.out, HM.out]
      have hbb : (b == b) = true := by simp
      clear hS hc hg htag hback hM hQ hla hlb hXX
      go_wp2_with fail
      refine wpG_begin (by kernel_rfl) ?_
      refine wpG_take (i := 0) (oi := { dst := some 33, op := Op.slice 31 (Operand.tmp 6) none none none, type := 22, pos := "law.go:74", after := #[], guard := none }) (v := ?_) rfl (by kernel_rfl) (by kernel_rfl) (by kernel_rfl) (by rfl) ?_ ?_
      rotate_left
      · intro W hW; first | (go_simp; done) | (go_simp; with_reducible rfl)
      try simp only [Act.put, List.setIfInBounds_toArray, List.set_cons_zero, List.set_cons_succ]
      refine wpG_take (i := 1) (oi := { dst := some 34, op := Op.slice 32 (Operand.tmp 7) none none none, type := 22, pos := "law.go:74", after := #[], guard := none }) (v := ?_) rfl (by kernel_rfl) (by kernel_rfl) (by kernel_rfl) (by rfl) ?_ ?_
      rotate_left
      · intro W hW; first | (go_simp; done) | (go_simp; with_reducible rfl)
      try simp only [Act.put, List.setIfInBounds_toArray, List.set_cons_zero, List.set_cons_succ]
      refine wpG_take (i := 2) (oi := { dst := some 35, op := Op.move (Operand.tmp 2), type := 22, pos := "law.go:74", after := #[], guard := none }) (v := ?_) rfl (by kernel_rfl) (by kernel_rfl) (by kernel_rfl) (by rfl) ?_ ?_
      rotate_left
      · intro W hW; first | (go_simp; done) | (go_simp; with_reducible rfl)
      try simp only [Act.put, List.setIfInBounds_toArray, List.set_cons_zero, List.set_cons_succ]
      refine wpG_take (i := 3) (oi := { dst := some 36, op := Op.move (Operand.tmp 3), type := 22, pos := "law.go:74", after := #[], guard := none }) (v := ?_) rfl (by kernel_rfl) (by kernel_rfl) (by kernel_rfl) (by rfl) ?_ ?_
      rotate_left
      · intro W hW; first | (go_simp; done) | (go_simp; with_reducible rfl)
      try simp only [Act.put, List.setIfInBounds_toArray, List.set_cons_zero, List.set_cons_succ]
      refine wpG_do (i := 4) (o := { dst := some 37, op := Op.call { callee := Callee.value (Operand.func 9), args := #[Operand.tmp 33, Operand.tmp 34, Operand.tmp 35, Operand.tmp 36], argTypes := #[22, 22, 22, 22] }, type := 25, pos := "law.go:74", after := #[{ on := 0, ground := Ground.data }, { on := 1, ground := Ground.data }, { on := 2, ground := Ground.data }, { on := 3, ground := Ground.data }], guard := none }) (by kernel_rfl) rfl (by rfl) fun K hK => ?_
      go_simp
      refine (aseal_all _ _ _ _ k n a b HLA.out HLB.out _ (PlT.kept P0.out (Below.refl _ _).drew) (KpT.kept T0.out (Below.refl _ _).drew) (Rd.drew K0.out) (Rd.drew N0.out) (Rd.drew A0.out) (Rd.drew B0.out)).mono ?_
      rintro e w3 ⟨vx, rfl, hN3⟩
      refine hK.out _ _ hN3.2 ?_
      clear hK K
      try simp only [Act.put, List.setIfInBounds_toArray, List.set_cons_zero, List.set_cons_succ]
      refine wpG_take (i := 5) (oi := { dst := some 32, op := Op.move (Operand.tmp 37), type := 25, pos := "law.go:74", after := #[{ on := 4, ground := Ground.data }], guard := none }) (v := ?_) rfl (by kernel_rfl) (by kernel_rfl) (by kernel_rfl) (by rfl) ?_ ?_
      rotate_left
      · intro W hW; first | (go_simp; done) | (go_simp; with_reducible rfl)
      try simp only [Act.put, List.setIfInBounds_toArray, List.set_cons_zero, List.set_cons_succ]
      refine wpG_take (i := 6) (oi := { dst := some 38, op := Op.extract (Operand.tmp 32) 0, type := 22, pos := "law.go:74", after := #[{ on := 5, ground := Ground.data }], guard := none }) (v := ?_) rfl (by kernel_rfl) (by kernel_rfl) (by kernel_rfl) (by rfl) ?_ ?_
      rotate_left
      · intro W hW; first | (go_simp; done) | (go_simp; with_reducible rfl)
      try simp only [Act.put, List.setIfInBounds_toArray, List.set_cons_zero, List.set_cons_succ]
      refine wpG_take (i := 7) (oi := { dst := some 39, op := Op.extract (Operand.tmp 32) 1, type := 24, pos := "law.go:74", after := #[{ on := 5, ground := Ground.data }, { on := 8, ground := Ground.gcOnly Departure.lateStores }], guard := none }) (v := ?_) rfl (by kernel_rfl) (by kernel_rfl) (by kernel_rfl) (by rfl) ?_ ?_
      rotate_left
      · intro W hW; first | (go_simp; done) | (go_simp; with_reducible rfl)
      try simp only [Act.put, List.setIfInBounds_toArray, List.set_cons_zero, List.set_cons_succ]
      refine wpG_take (i := 8) (oi := { dst := some 14, op := Op.assign (Operand.tmp 38), type := 22, pos := "law.go:74", after := #[{ on := 6, ground := Ground.data }, { on := 4, ground := Ground.chain }, { on := 0, ground := Ground.phase }, { on := 1, ground := Ground.phase }, { on := 2, ground := Ground.phase }, { on := 3, ground := Ground.phase }, { on := 4, ground := Ground.phase }, { on := 5, ground := Ground.phase }, { on := 6, ground := Ground.phase }, { on := 7, ground := Ground.textOnly Departure.lateStores }], guard := none }) (v := ?_) rfl (by kernel_rfl) (by kernel_rfl) (by kernel_rfl) (by rfl) ?_ ?_
      rotate_left
      · intro W hW; first | (go_simp; done) | (go_simp; with_reducible rfl)
      try simp only [Act.put, List.setIfInBounds_toArray, List.set_cons_zero, List.set_cons_succ]
      refine wpG_take (i := 9) (oi := { dst := some 15, op := Op.assign (Operand.tmp 39), type := 24, pos := "law.go:74", after := #[{ on := 7, ground := Ground.data }, { on := 8, ground := Ground.chain }, { on := 0, ground := Ground.phase }, { on := 1, ground := Ground.phase }, { on := 2, ground := Ground.phase }, { on := 3, ground := Ground.phase }, { on := 4, ground := Ground.phase }, { on := 5, ground := Ground.phase }, { on := 6, ground := Ground.phase }, { on := 7, ground := Ground.phase }, { on := 8, ground := Ground.phase }], guard := none }) (v := ?_) rfl (by kernel_rfl) (by kernel_rfl) (by kernel_rfl) (by rfl) ?_ ?_
      rotate_left
      · intro W hW; first | (go_simp; done) | (go_simp; with_reducible rfl)
      try simp only [Act.put, List.setIfInBounds_toArray, List.set_cons_zero, List.set_cons_succ]
      refine wpG_done (by kernel_rfl) ?_
      rw [HS.out] at hN3 ⊢
      obtain ⟨gx, cx, rfl, hcx, -, -, -⟩ := hN3.store (j := 0) (by rw [HLX.out, HM.out]; omega)
      rw [HLX.out] at hcx ⊢
      have HN3 : Hid (New 5 wa (.slice (some ⟨gx, 0, none⟩) M cx) (c ++ g) w3) := by
        have h := hN3.from (Below.refl wa.heap.size wa).drew
        rw [HLX.out] at h
        exact h
      have hgx : gx < w3.heap.size := (hN3.1.lt gx rfl).2
      have hmx : cx ≤ maxLen := by obtain ⟨a', c', e, h1, h2, -⟩ := hN3.rd; simp only [Value.slice.injEq] at e; obtain ⟨-, -, rfl⟩ := e; exact h2
      unfold maxLen at hmx
      have bx := HN3.out.2
      have K1 : Hid (Rd w3 (.slice (some ⟨w.heap.size, 0, none⟩) 32 32) k) := Rd.kept K0.out bx
      have N1 : Hid (Rd w3 (.slice (some ⟨w1.heap.size, 0, none⟩) 12 12) n) := Rd.kept N0.out bx
      have P1 : Hid (PlT w3) := PlT.kept P0.out bx
      have T1 : Hid (KpT w3) := KpT.kept T0.out bx
      have A1 : Hid (Rd w3 (.slice aa a.length ca) a) := Rd.kept A0.out bx
      have X1 : Hid (Rd w3 (.slice (some ⟨gx, 0, none⟩) M cx) (c ++ g)) := HN3.out.rd
      clear hN3 bx
      go_wp2_with fail
      refine wpG_begin (by kernel_rfl) ?_
      refine wpG_take (i := 0) (oi := { dst := some 51, op := Op.slice 31 (Operand.tmp 6) none none none, type := 22, pos := "law.go:78", after := #[], guard := none }) (v := ?_) rfl (by kernel_rfl) (by kernel_rfl) (by kernel_rfl) (by rfl) ?_ ?_
      rotate_left
      · intro W hW; first | (go_simp; done) | (go_simp; with_reducible rfl)
      try simp only [Act.put, List.setIfInBounds_toArray, List.set_cons_zero, List.set_cons_succ]
      refine wpG_take (i := 1) (oi := { dst := some 52, op := Op.slice 32 (Operand.tmp 7) none none none, type := 22, pos := "law.go:78", after := #[], guard := none }) (v := ?_) rfl (by kernel_rfl) (by kernel_rfl) (by kernel_rfl) (by rfl) ?_ ?_
      rotate_left
      · intro W hW; first | (go_simp; done) | (go_simp; with_reducible rfl)
      try simp only [Act.put, List.setIfInBounds_toArray, List.set_cons_zero, List.set_cons_succ]
      refine wpG_take (i := 2) (oi := { dst := some 53, op := Op.move (Operand.tmp 2), type := 22, pos := "law.go:78", after := #[], guard := none }) (v := ?_) rfl (by kernel_rfl) (by kernel_rfl) (by kernel_rfl) (by rfl) ?_ ?_
      rotate_left
      · intro W hW; first | (go_simp; done) | (go_simp; with_reducible rfl)
      try simp only [Act.put, List.setIfInBounds_toArray, List.set_cons_zero, List.set_cons_succ]
      refine wpG_take (i := 3) (oi := { dst := some 54, op := Op.move (Operand.tmp 14), type := 22, pos := "law.go:78", after := #[], guard := none }) (v := ?_) rfl (by kernel_rfl) (by kernel_rfl) (by kernel_rfl) (by rfl) ?_ ?_
      rotate_left
      · intro W hW; first | (go_simp; done) | (go_simp; with_reducible rfl)
      try simp only [Act.put, List.setIfInBounds_toArray, List.set_cons_zero, List.set_cons_succ]
      refine wpG_do (i := 4) (o := { dst := some 55, op := Op.call { callee := Callee.value (Operand.func 13), args := #[Operand.tmp 51, Operand.tmp 52, Operand.tmp 53, Operand.tmp 54], argTypes := #[22, 22, 22, 22] }, type := 25, pos := "law.go:78", after := #[{ on := 0, ground := Ground.data }, { on := 1, ground := Ground.data }, { on := 2, ground := Ground.data }, { on := 3, ground := Ground.data }], guard := none }) (by kernel_rfl) rfl (by rfl) fun K hK => ?_
      go_simp
      refine (aopen_all _ _ _ _ k n a (c ++ g) HLA.out (by rw [HLX.out]; have := HM.out; have := HLL.out; omega) _ (PlT.kept P1.out (Below.refl _ _).drew) (KpT.kept T1.out (Below.refl _ _).drew) (Rd.drew K1.out) (Rd.drew N1.out) (Rd.drew A1.out) (Rd.drew X1.out)).mono ?_
      rintro e w4 ⟨vy, rfl, hN4⟩
      refine hK.out _ _ hN4.2 ?_
      clear hK K
      try simp only [Act.put, List.setIfInBounds_toArray, List.set_cons_zero, List.set_cons_succ]
      refine wpG_take (i := 5) (oi := { dst := some 50, op := Op.move (Operand.tmp 55), type := 25, pos := "law.go:78", after := #[{ on := 4, ground := Ground.data }], guard := none }) (v := ?_) rfl (by kernel_rfl) (by kernel_rfl) (by kernel_rfl) (by rfl) ?_ ?_
      rotate_left
      · intro W hW; first | (go_simp; done) | (go_simp; with_reducible rfl)
      try simp only [Act.put, List.setIfInBounds_toArray, List.set_cons_zero, List.set_cons_succ]
      refine wpG_take (i := 6) (oi := { dst := some 56, op := Op.extract (Operand.tmp 50) 0, type := 22, pos := "law.go:78", after := #[{ on := 5, ground := Ground.data }], guard := none }) (v := ?_) rfl (by kernel_rfl) (by kernel_rfl) (by kernel_rfl) (by rfl) ?_ ?_
      rotate_left
      · intro W hW; first | (go_simp; done) | (go_simp; with_reducible rfl)
      try simp only [Act.put, List.setIfInBounds_toArray, List.set_cons_zero, List.set_cons_succ]
      refine wpG_take (i := 7) (oi := { dst := some 57, op := Op.extract (Operand.tmp 50) 1, type := 24, pos := "law.go:78", after := #[{ on := 5, ground := Ground.data }, { on := 8, ground := Ground.gcOnly Departure.lateStores }], guard := none }) (v := ?_) rfl (by kernel_rfl) (by kernel_rfl) (by kernel_rfl) (by rfl) ?_ ?_
      rotate_left
      · intro W hW; first | (go_simp; done) | (go_simp; with_reducible rfl)
      try simp only [Act.put, List.setIfInBounds_toArray, List.set_cons_zero, List.set_cons_succ]
      refine wpG_take (i := 8) (oi := { dst := some 16, op := Op.assign (Operand.tmp 56), type := 22, pos := "law.go:78", after := #[{ on := 6, ground := Ground.data }, { on := 4, ground := Ground.chain }, { on := 0, ground := Ground.phase }, { on := 1, ground := Ground.phase }, { on := 2, ground := Ground.phase }, { on := 3, ground := Ground.phase }, { on := 4, ground := Ground.phase }, { on := 5, ground := Ground.phase }, { on := 6, ground := Ground.phase }, { on := 7, ground := Ground.textOnly Departure.lateStores }], guard := none }) (v := ?_) rfl (by kernel_rfl) (by kernel_rfl) (by kernel_rfl) (by rfl) ?_ ?_
      rotate_left
      · intro W hW; first | (go_simp; done) | (go_simp; with_reducible rfl)
      try simp only [Act.put, List.setIfInBounds_toArray, List.set_cons_zero, List.set_cons_succ]
      refine wpG_take (i := 9) (oi := { dst := some 17, op := Op.assign (Operand.tmp 57), type := 24, pos := "law.go:78", after := #[{ on := 7, ground := Ground.data }, { on := 8, ground := Ground.chain }, { on := 0, ground := Ground.phase }, { on := 1, ground := Ground.phase }, { on := 2, ground := Ground.phase }, { on := 3, ground := Ground.phase }, { on := 4, ground := Ground.phase }, { on := 5, ground := Ground.phase }, { on := 6, ground := Ground.phase }, { on := 7, ground := Ground.phase }, { on := 8, ground := Ground.phase }], guard := none }) (v := ?_) rfl (by kernel_rfl) (by kernel_rfl) (by kernel_rfl) (by rfl) ?_ ?_
      rotate_left
      · intro W hW; first | (go_simp; done) | (go_simp; with_reducible rfl)
      try simp only [Act.put, List.setIfInBounds_toArray, List.set_cons_zero, List.set_cons_succ]
      refine wpG_done (by kernel_rfl) ?_
      rw [HO.out] at hN4 ⊢
      have hoy : w4.ownsRow w3.heap.size 5 1 vy b.length (b.map bv) := hN4.1
      have HN4 : Hid (New 5 wa (.slice (some ⟨gx, 0, none⟩) M cx) (c ++ g) w4) := New.kept HN3.out ((Below.refl w3.heap.size w3).drew.trans (hN4.2.mono (Nat.le_refl _)))
      clear hN4 K1 N1 P1 T1 A1 X1 HN3
      obtain ⟨gx', cx', ev, -, hcell, hfree, hset⟩ := HN4.out.store (j := Q) (by rw [HLX.out]; exact hQM)
      rw [HLX.out] at ev
      simp only [Value.slice.injEq, Option.some.injEq, Addr.mk.injEq, and_true, true_and] at ev
      obtain ⟨rfl, rfl⟩ := ev
      have e19 : (c ++ g).getD Q 0 = g.getD X 0 := by have := get_tag c g X; rw [HC.out, ← HQ.out] at this; exact this
      rw [e19] at hcell
      have hx7 := hset (g.getD X 0 ^^^ y)
      have e20 := set_tag c g X (g.getD X 0 ^^^ y)
      rw [HC.out, ← HQ.out] at e20
      rw [e20, ← byte_xor] at hx7
      have hoy7 := own_old hoy hgx Q (.int .u8 (bits .xor .u8 ((g.getD X 0).toNat : Int) (y.toNat : Int)))
      have HX7 : Hid (New 5 wa (.slice (some ⟨gx, 0, none⟩) M cx) (c ++ g.set X (g.getD X 0 ^^^ y)) (w4.setCell ⟨gx, Q, none⟩ (.int .u8 (bits .xor .u8 ((g.getD X 0).toNat : Int) (y.toNat : Int))))) := hx7
      have HL7 : Hid ((c ++ g.set X (g.getD X 0 ^^^ y)).length = M) := by show _ = _; rw [List.length_append, List.length_set, HC.out, HG.out, HM.out]
      generalize c ++ g.set X (g.getD X 0 ^^^ y) = S at HX7 HL7 HO2
      generalize ((g.getD X 0).toNat : Int) = G at hcell hoy7 HX7
      have hy0 : ((y.toNat : Int) == 0) = decide (y = 0) := by
        by_cases h : y = 0
        · subst h; rfl
        · rw [decide_eq_false h]
          have : y.toNat ≠ 0 := fun e => h (UInt8.toNat_inj.1 e)
          simp; omega
      obtain ⟨Y, hY⟩ : ∃ Y : Int, Y = (y.toNat : Int) := ⟨_, rfl⟩
      rw [← hY] at hoy7 HX7 hy0 ⊢
      clear hx7 hset e20 e19 hoy HN4 hY
      go_upto_region 12 with fail
      generalize w4.setCell ⟨gx, Q, none⟩ (.int .u8 (bits .xor .u8 G Y)) = w5 at hoy7 HX7 ⊢
      have bx := HX7.out.2
      have K1 : Hid (Rd w5 (.slice (some ⟨w.heap.size, 0, none⟩) 32 32) k) := Rd.kept K0.out bx
      have N1 : Hid (Rd w5 (.slice (some ⟨w1.heap.size, 0, none⟩) 12 12) n) := Rd.kept N0.out bx
      have P1 : Hid (PlT w5) := PlT.kept P0.out bx
      have T1 : Hid (KpT w5) := KpT.kept T0.out bx
      have A1 : Hid (Rd w5 (.slice aa a.length ca) a) := Rd.kept A0.out bx
      have B1 : Hid (Rd w5 (.slice ab L cb) b) := Rd.kept B0.out bx
      have X1 : Hid (Rd w5 (.slice (some ⟨gx, 0, none⟩) M cx) S) := HX7.out.rd
      have Y1 : Hid (Rd w5 vy b) := Rd.of_row hoy7
      have HB5 : Hid (Below w.heap.size w w5) := stepB HB.out bx
      clear K0 N0 P0 T0 A0 B0 HX7 hoy7 HB bx hcell hfree
      refine wpG_begin (by kernel_rfl) ?_
      refine wpG_take (i := 0) (oi := { dst := some 73, op := Op.slice 31 (Operand.tmp 6) none none none, type := 22, pos := "law.go:81", after := #[], guard := none }) (v := ?_) rfl (by kernel_rfl) (by kernel_rfl) (by kernel_rfl) (by rfl) ?_ ?_
      rotate_left
      · intro W hW; first | (go_simp; done) | (go_simp; with_reducible rfl)
      try simp only [Act.put, List.setIfInBounds_toArray, List.set_cons_zero, List.set_cons_succ]
      refine wpG_take (i := 1) (oi := { dst := some 74, op := Op.slice 32 (Operand.tmp 7) none none none, type := 22, pos := "law.go:81", after := #[], guard := none }) (v := ?_) rfl (by kernel_rfl) (by kernel_rfl) (by kernel_rfl) (by rfl) ?_ ?_
      rotate_left
      · intro W hW; first | (go_simp; done) | (go_simp; with_reducible rfl)
      try simp only [Act.put, List.setIfInBounds_toArray, List.set_cons_zero, List.set_cons_succ]
      refine wpG_take (i := 2) (oi := { dst := some 75, op := Op.move (Operand.tmp 2), type := 22, pos := "law.go:81", after := #[], guard := none }) (v := ?_) rfl (by kernel_rfl) (by kernel_rfl) (by kernel_rfl) (by rfl) ?_ ?_
      rotate_left
      · intro W hW; first | (go_simp; done) | (go_simp; with_reducible rfl)
      try simp only [Act.put, List.setIfInBounds_toArray, List.set_cons_zero, List.set_cons_succ]
      refine wpG_take (i := 3) (oi := { dst := some 76, op := Op.move (Operand.tmp 14), type := 22, pos := "law.go:81", after := #[], guard := none }) (v := ?_) rfl (by kernel_rfl) (by kernel_rfl) (by kernel_rfl) (by rfl) ?_ ?_
      rotate_left
      · intro W hW; first | (go_simp; done) | (go_simp; with_reducible rfl)
      try simp only [Act.put, List.setIfInBounds_toArray, List.set_cons_zero, List.set_cons_succ]
      refine wpG_do (i := 4) (o := { dst := some 77, op := Op.call { callee := Callee.value (Operand.func 13), args := #[Operand.tmp 73, Operand.tmp 74, Operand.tmp 75, Operand.tmp 76], argTypes := #[22, 22, 22, 22] }, type := 25, pos := "law.go:81", after := #[{ on := 0, ground := Ground.data }, { on := 1, ground := Ground.data }, { on := 2, ground := Ground.data }, { on := 3, ground := Ground.data }], guard := none }) (by kernel_rfl) rfl (by rfl) fun K hK => ?_
      go_simp
      refine (aopen_all _ _ _ _ k n a S HLA.out (by rw [HL7.out]; have := HM.out; have := HLL.out; omega) _ (PlT.kept P1.out (Below.refl _ _).drew) (KpT.kept T1.out (Below.refl _ _).drew) (Rd.drew K1.out) (Rd.drew N1.out) (Rd.drew A1.out) (Rd.drew X1.out)).mono ?_
      rintro e w6 ⟨vz, rfl, hN6⟩
      refine hK.out _ _ hN6.2 ?_
      clear hK K
      try simp only [Act.put, List.setIfInBounds_toArray, List.set_cons_zero, List.set_cons_succ]
      refine wpG_take (i := 5) (oi := { dst := some 72, op := Op.move (Operand.tmp 77), type := 25, pos := "law.go:81", after := #[{ on := 4, ground := Ground.data }], guard := none }) (v := ?_) rfl (by kernel_rfl) (by kernel_rfl) (by kernel_rfl) (by rfl) ?_ ?_
      rotate_left
      · intro W hW; first | (go_simp; done) | (go_simp; with_reducible rfl)
      try simp only [Act.put, List.setIfInBounds_toArray, List.set_cons_zero, List.set_cons_succ]
      refine wpG_take (i := 6) (oi := { dst := some 78, op := Op.extract (Operand.tmp 72) 0, type := 22, pos := "law.go:81", after := #[{ on := 5, ground := Ground.data }], guard := none }) (v := ?_) rfl (by kernel_rfl) (by kernel_rfl) (by kernel_rfl) (by rfl) ?_ ?_
      rotate_left
      · intro W hW; first | (go_simp; done) | (go_simp; with_reducible rfl)
      try simp only [Act.put, List.setIfInBounds_toArray, List.set_cons_zero, List.set_cons_succ]
      refine wpG_take (i := 7) (oi := { dst := some 79, op := Op.extract (Operand.tmp 72) 1, type := 24, pos := "law.go:81", after := #[{ on := 5, ground := Ground.data }, { on := 8, ground := Ground.gcOnly Departure.lateStores }], guard := none }) (v := ?_) rfl (by kernel_rfl) (by kernel_rfl) (by kernel_rfl) (by rfl) ?_ ?_
      rotate_left
      · intro W hW; first | (go_simp; done) | (go_simp; with_reducible rfl)
      try simp only [Act.put, List.setIfInBounds_toArray, List.set_cons_zero, List.set_cons_succ]
      refine wpG_take (i := 8) (oi := { dst := some 19, op := Op.assign (Operand.tmp 78), type := 22, pos := "law.go:81", after := #[{ on := 6, ground := Ground.data }, { on := 4, ground := Ground.chain }, { on := 0, ground := Ground.phase }, { on := 1, ground := Ground.phase }, { on := 2, ground := Ground.phase }, { on := 3, ground := Ground.phase }, { on := 4, ground := Ground.phase }, { on := 5, ground := Ground.phase }, { on := 6, ground := Ground.phase }, { on := 7, ground := Ground.textOnly Departure.lateStores }], guard := none }) (v := ?_) rfl (by kernel_rfl) (by kernel_rfl) (by kernel_rfl) (by rfl) ?_ ?_
      rotate_left
      · intro W hW; first | (go_simp; done) | (go_simp; with_reducible rfl)
      try simp only [Act.put, List.setIfInBounds_toArray, List.set_cons_zero, List.set_cons_succ]
      refine wpG_take (i := 9) (oi := { dst := some 20, op := Op.assign (Operand.tmp 79), type := 24, pos := "law.go:81", after := #[{ on := 7, ground := Ground.data }, { on := 8, ground := Ground.chain }, { on := 0, ground := Ground.phase }, { on := 1, ground := Ground.phase }, { on := 2, ground := Ground.phase }, { on := 3, ground := Ground.phase }, { on := 4, ground := Ground.phase }, { on := 5, ground := Ground.phase }, { on := 6, ground := Ground.phase }, { on := 7, ground := Ground.phase }, { on := 8, ground := Ground.phase }], guard := none }) (v := ?_) rfl (by kernel_rfl) (by kernel_rfl) (by kernel_rfl) (by rfl) ?_ ?_
      rotate_left
      · intro W hW; first | (go_simp; done) | (go_simp; with_reducible rfl)
      try simp only [Act.put, List.setIfInBounds_toArray, List.set_cons_zero, List.set_cons_succ]
      refine wpG_done (by kernel_rfl) ?_
      have bx := stepB (Below.refl w5.heap.size w5).drew hN6.2
      have cy := conv_any (Rd.kept Y1.out bx)
      have cbb := conv_any (Rd.kept B1.out bx)
      have HB6 : Hid (Below w.heap.size w w6) := stepB HB5.out bx
      by_cases hy : y = 0
      · have hd : decide (y = 0) = true := decide_eq_true hy
        rw [hd] at hy0
        rw [HO2.out, if_pos hy] at hN6 ⊢
        have cz := conv_any hN6.rd
        clear hN6 K1 N1 P1 T1 A1 B1 X1 Y1 bx HO2 hy hd
        go_wp2
        go_ret
        exact ⟨rfl, HB6.out⟩
      · have hd : decide (y = 0) = false := decide_eq_false hy
        rw [hd] at hy0
        rw [HO2.out, if_neg hy] at hN6 ⊢
        obtain ⟨az, q, rfl, -⟩ := id hN6.rd
        clear hN6 K1 N1 P1 T1 A1 B1 X1 Y1 bx HO2 hy hd
        go_wp2
        go_ret
        exact ⟨rfl, HB6.out⟩
    · have db : decide ((1000 : Int) < (L : Int)) = true := decide_eq_true (by omega)
      go_wp2
      go_ret
      exact ⟨rfl, HB.out⟩
  · have da : decide ((1000 : Int) < (a.length : Int)) = true := decide_eq_true (by omega)
    go_wp2
    go_ret
    exact ⟨rfl, HB.out⟩
end Go.Proofs.YtenljbljaffehaaDoor
