/- What the law PolyOpen answers at every input: the walk. -/
import Derived.Test.YtcelhlpopdcaaaaDoorP08g
namespace Go.Proofs.YtcelhlpopdcaaaaDoor
open Go.ChangeShapes Go.WideShapes Go.ChangeAt Go.RowKit
set_option linter.unusedSimpArgs false
set_option linter.unusedVariables false

theorem max_arr {l : List UInt8} {n : Nat} (h : l.length = n) (hn : n ≤ 1000) : (byI l).length ≤ maxLen := by
  rw [byI_length, h]
  unfold maxLen
  omega
theorem ne_arr {l : List UInt8} {n : Nat} (h : l.length = n) (hn : 0 < n) : byI l ≠ [] := byI_ne (by rw [← List.length_pos_iff]; omega)
theorem mxB_get {x a : List UInt8} {n : Nat} (hx : x.length = n) (i : Nat) (hi : i < n) : (mxB x a i).getD i 0 = a.getD i 0 := by
  have h1 : (x.take i).length = i := by rw [List.length_take, hx]; omega
  unfold mxB
  rw [List.getD_eq_getElem?_getD, List.getElem?_append_right (by omega), h1, Nat.sub_self]
  simp
theorem mxB_same {x a : List UInt8} {n : Nat} (hx : x.length = n) (ha : a.length = n) (i : Nat) (hi : i < n) (h : x.getD i 0 = a.getD i 0) : mxB x a (i + 1) = mxB x a i := by
  have h2 : i < x.length := by omega
  have h3 : i < a.length := by omega
  have e : x[i] = a[i] := by simpa [h2, h3] using h
  unfold mxB
  rw [List.take_succ_eq_append_getElem h2, List.drop_eq_getElem_cons h3, List.append_assoc, e]
  rfl
theorem mxB_end {x a : List UInt8} (i : Nat) (h : x.drop i = a.drop i) : mxB x a i = x := by
  unfold mxB
  rw [← h, List.take_append_drop]
theorem zf_drop (k m : List UInt8) (hk : k.length = 32) : (zfL k).drop 16 = (twL k m).drop 16 := by
  rw [drop_tw k m hk]
  unfold zfL
  rw [List.drop_left' (by simp)]
theorem twB_3 (k m : List UInt8) (i : Nat) (hi : i < 16) (h : i % 4 = 3) : (twL k m).getD i 0 = k.getD i 0 ^^^ (m.getD i 0 &&& 240) := by
  rw [twL_get k m i (by omega)]
  unfold twB
  rw [if_pos ⟨hi, h⟩]
theorem twB_0 (k m : List UInt8) (i : Nat) (hi : i < 16) (h : i % 4 = 0) (h0 : 0 < i) : (twL k m).getD i 0 = k.getD i 0 ^^^ (m.getD i 0 &&& 3) := by
  rw [twL_get k m i (by omega)]
  unfold twB
  rw [if_neg (by omega), if_pos ⟨hi, h, h0⟩]
theorem twB_no (k m : List UInt8) (i : Nat) (hi : i < 32) (h : i % 4 ≠ 3) (h0 : ¬ (i % 4 = 0 ∧ 0 < i)) : (twL k m).getD i 0 = k.getD i 0 := by
  rw [twL_get k m i hi]
  unfold twB
  rw [if_neg (by omega), if_neg (by omega)]
/-- What is kept while the key's own array is written. -/
structure Kp8 (w wa : World) (g0 g1 : Nat) (vx vw : Value) (X Wl m : List UInt8) (W : World) : Prop where
  ox : W.ownsRow wa.heap.size 5 1 vx X.length (X.map bv)
  ow : W.ownsRow wa.heap.size 5 1 vw Wl.length (Wl.map bv)
  rm : RowAt .u8 29 g1 16 (byI m) W
  below : Below w.heap.size w W
  size : wa.heap.size ≤ W.heap.size
theorem own_set8 {W : World} {base g0 : Nat} {e : TypeId} {v : Value} {n : Nat} {xs : List Value} (h : W.ownsRow base e 1 v n xs) (h0 : g0 < base) (j : Nat) (u : Value) : (W.setCell ⟨g0, j, none⟩ u).ownsRow base e 1 v n xs := by
  refine own_chg h (Chg.of_wrote (Wrote.set g0 j W u)) fun g e1 e2 => ?_
  have := (h.lt g e1).1
  omega
theorem Kp8.set {w wa : World} {g0 g1 : Nat} {vx vw : Value} {X Wl m : List UInt8} {W : World} (h : Kp8 w wa g0 g1 vx vw X Wl m W) (h0 : g0 < wa.heap.size) (h01 : g0 ≠ g1) (hw : w.heap.size ≤ g0) (j : Nat) (u : Value) : Kp8 w wa g0 g1 vx vw X Wl m (W.setCell ⟨g0, j, none⟩ u) := by
  exact ⟨own_set8 h.ox h0 j u, own_set8 h.ow h0 j u, h.rm.other (p := ⟨g0, j, none⟩) h01 u, (Wrote.set g0 j W u).below _ _ hw h.below, by have := (Wrote.set g0 j W u).size; have := h.size; omega⟩
theorem Kp8.kept {w wa : World} {g0 g1 : Nat} {vx vw : Value} {X Wl m : List UInt8} {W W' : World} (h : Kp8 w wa g0 g1 vx vw X Wl m W) (hb : Below W.heap.size W W') : Kp8 w wa g0 g1 vx vw X Wl m W' :=
  ⟨ownsRow_below h.ox hb, ownsRow_below h.ow hb, h.rm.kept hb, stepB h.below hb, Nat.le_trans h.size hb.size⟩

set_option maxRecDepth 100000 in
set_option maxHeartbeats 4000000 in
theorem open_walk (Ka : Array Value) (k : List UInt8) (hk : k.length = 32) (hKa : Ka = ((byI k).map (Value.int .u8)).toArray) (vb : Value) (b : List UInt8) (Ma : Array Value) (m : List UInt8) (hm : m.length = 16) (hMa : Ma = ((byI m).map (Value.int .u8)).toArray) (w : World) (hb : Rd w vb b) (ht : KpT w) :
    Calls Tryd.prog 5 #[.agg Ka, vb, .agg Ma] w fun e w' => e = .returned (.bool true) ∧ Below w.heap.size w w' := by
  obtain ⟨ab, cb, rfl, -, hmb, -, -⟩ := id hb
  unfold maxLen at hmb
  have HK : Hid (k.length = 32) := hk
  have HM : Hid (m.length = 16) := hm
  have HB : Hid (Rd w (.slice ab b.length cb) b) := hb
  have HT : Hid (KpT w) := ht
  clear hb ht
  go_enter Tryd.func5, Tryd.ntmps5
  go_wp2_with (refine wpList_box_row (k := .u8) rfl 28 _ rfl (byI k) (by rw [← hKa]; rfl) (ne_arr hk (by decide)) (max_arr hk (by decide)) ?_)
  intro w1 rk bn sn
  rw [byI_length, hk] at rk
  have hbw := bn
  have n1 : w.heap.size < w1.heap.size := by have := sn.out; omega
  clear bn sn hKa hk
  go_wp2_with (refine wpList_box_row (k := .u8) rfl 29 _ rfl (byI m) (by rw [← hMa]; rfl) (ne_arr hm (by decide)) (max_arr hm (by decide)) ?_)
  intro w2 rm bn sn
  rw [byI_length, hm] at rm
  have n2 : w1.heap.size < w2.heap.size := by have := sn.out; omega
  replace rk := rk.kept bn
  replace hbw := stepB hbw bn
  clear bn sn hMa hm
  go_wp2_with fail
  refine (awake_any _ (HT.out.kept hbw)).mono ?_
  rintro e wa ⟨rfl, bn⟩
  replace rk := rk.kept bn
  replace rm := rm.kept bn
  replace hbw := stepB hbw bn
  have na : w2.heap.size ≤ wa.heap.size := bn.size
  clear bn
  by_cases hbl : b.length ≤ 2000
  · have d1 : decide ((2000 : Int) < (b.length : Int)) = false := decide_eq_false (by omega)
    have g1 : (b.length : Int) ≤ 2000 := by omega
    clear hbl
    have kk := rk.rdB
    rw [HK.out] at kk
    have ks := kk.sub 16 32 (by omega) (by omega)
    have hk16 : (k.drop 16).take (32 - 16) = k.drop 16 := by rw [List.take_of_length_le (by rw [List.length_drop, HK.out]; decide)]
    rw [hk16, Nat.zero_add] at ks
    have ks2 : Rd wa (.slice (some ⟨w.heap.size, 16, none⟩) 16 16) (k.drop 16) := ks
    have hcv := conv_any ks2
    have HX0 : Hid (mcP k [] = k.drop 16) := mcP_nil k HK.out
    have HX1 : Hid (mcP (twL k m) b = mcP k b) := mcP_tw k m b HK.out
    have HX2 : Hid (mcP (zfL k) b = k.drop 16) := mcP_zf k b HK.out
    have HKr : Hid (Rd wa (.slice (some ⟨w.heap.size, 0, none⟩) 32 32) k) := kk
    clear ks ks2 kk
    go_wp2_with fail
    refine (pmac_any _ _ k [] _ (HT.out.kept hbw) HKr.out (Rd.nil _) HK.out).mono ?_
    rintro e wb ⟨vx, rfl, hNx⟩
    rw [HX0.out] at hNx
    have HKr2 : Hid (Rd wb (.slice (some ⟨w.heap.size, 0, none⟩) 32 32) k) := HKr.out.kept hNx.2
    have hbw2 := stepB hbw hNx.2
    clear hcv
    go_wp2_with fail
    refine (pmac_any _ _ k b _ (HT.out.kept hbw2) HKr2.out (HB.out.kept hbw2) HK.out).mono ?_
    rintro e wc ⟨vw, rfl, hNw⟩
    have hKp : Kp8 w wa w.heap.size w1.heap.size vx vw (k.drop 16) (mcP k b) m wc := ⟨ownsRow_below hNx.1 hNw.2, own_mono hNw.1 hNx.2.size, (rm.kept hNx.2).kept hNw.2, stepB hbw2 hNw.2, Nat.le_trans hNx.2.size hNw.2.size⟩
    have hrk : RowAt .u8 28 w.heap.size 32 (byI (mxB (twL k m) k 0)) wc := by rw [mxB_zero]; exact (rk.kept hNx.2).kept hNw.2
    have HTl : Hid ((twL k m).length = 32) := twL_length k m
    clear hNx hNw hbw2 HKr HKr2 rk rm hbw hk16
    generalize k.drop 16 = U at hKp HX0 HX2
    go_wp2
    go_loopw [11] (fun iv wx => ∃ i : Nat, i ≤ 16 ∧ iv = .int .i64 (i : Int) ∧ RowAt .u8 28 w.heap.size 32 (byI (mxB (twL k m) k i)) wx ∧ Kp8 w wa w.heap.size w1.heap.size vx vw U (mcP k b) m wx) (fun iv _ => 16 - (intOf iv).toNat)
    case atStart => exact ⟨0, by omega, rfl, hrk, hKp⟩
    case round =>
      obtain ⟨i, hi, rfl, rk, kp⟩ := hrel
      clear hrk hKp
      by_cases hlt : i < 16
      · have hd : decide ((i : Int) < 16) = true := decide_eq_true (by omega)
        have hiI : (i : Int) < 16 := by omega
        have hiJ : (i : Int) < 32 := by omega
        have hck := rk.cellB (j := i) (by rw [mxB_len HTl.out HK.out i (by omega)]; omega)
        rw [mxB_get HTl.out i (by omega)] at hck
        have hcm := kp.rm.cellB (j := i) (by rw [HM.out]; exact hlt)
        have hfk := rk.free i
        have HR0 : Hid (∀ W : World, Below wr.heap.size wr W → RowAt .u8 28 w.heap.size 32 (byI (mxB (twL k m) k (i + 1))) (W.setCell ⟨w.heap.size, i, none⟩ (.int .u8 (((twL k m).getD i 0).toNat : Int))) ∧ Kp8 w wa w.heap.size w1.heap.size vx vw U (mcP k b) m (W.setCell ⟨w.heap.size, i, none⟩ (.int .u8 (((twL k m).getD i 0).toNat : Int)))) := by
          intro W hW
          refine ⟨?_, (kp.kept hW).set (by omega) (by omega) (Nat.le_refl _) _ _⟩
          have h1 := (rk.kept hW).setB i ((twL k m).getD i 0)
          rw [mxB_set HTl.out HK.out i (by omega)] at h1
          exact h1
        have hr4 : i % 4 = 3 ∨ (i % 4 = 0 ∧ 0 < i) ∨ (i % 4 ≠ 3 ∧ ¬ (i % 4 = 0 ∧ 0 < i)) := by omega
        rcases hr4 with h3 | ⟨h0, hp⟩ | ⟨hn3, hn0⟩
        · have t1 : (i : Int).tmod 4 = 3 := by rw [Int.tmod_eq_emod_of_nonneg (by omega)]; omega
          have t2 : (i : Int) % 4 = 3 := by omega
          have e1 : bits .and .u8 ((m.getD i 0).toNat : Int) 240 = (((m.getD i 0 &&& 240).toNat : Nat) : Int) := byte_and _ 240
          have e2 := byte_xor (k.getD i 0) (m.getD i 0 &&& 240)
          rw [← twB_3 k m i hlt h3] at e2
          have HR : Hid _ := HR0.out
          generalize ((twL k m).getD i 0).toNat = z at e2 HR
          generalize (m.getD i 0 &&& 240).toNat = y2 at e1 e2
          generalize (m.getD i 0).toNat = y at e1 hcm
          generalize (k.getD i 0).toNat = x at e2 hck
          clear HR0 rk kp h3
          go_wp2_with fail
          have hB : Below wr.heap.size wr wr.drew := (Below.refl _ _).drew
          refine wpF_begin 10 (w0 := wr) (by kernel_rfl) ?_
          refine wpF_pure (hb := .inr hB) (i := 0) (oi := { dst := some 35, op := Op.move (Operand.tmp 11), type := 3, pos := "law.go:64", after := #[], guard := none }) (v := ?_) rfl (by decide) (by kernel_rfl) (by kernel_rfl) (by kernel_rfl) (by rfl) ?_ ?_
          rotate_left
          · intro W; first | (go_simp; done) | (go_simp; with_reducible rfl)
          try simp only [Act.put, List.setIfInBounds_toArray, List.set_cons_zero, List.set_cons_succ]
          refine wpF_pure (hb := .inr hB) (i := 1) (oi := { dst := some 36, op := Op.move (Operand.tmp 11), type := 3, pos := "law.go:64", after := #[], guard := none }) (v := ?_) rfl (by decide) (by kernel_rfl) (by kernel_rfl) (by kernel_rfl) (by rfl) ?_ ?_
          rotate_left
          · intro W; first | (go_simp; done) | (go_simp; with_reducible rfl)
          try simp only [Act.put, List.setIfInBounds_toArray, List.set_cons_zero, List.set_cons_succ]
          refine wpF_pure (hb := .inr hB) (i := 2) (oi := { dst := some 37, op := Op.indexAddr 28 (Operand.tmp 3) (Operand.tmp 36), type := 0, pos := "law.go:64", after := #[{ on := 1, ground := Ground.data }], guard := none }) (v := ?_) rfl (by decide) (by kernel_rfl) (by kernel_rfl) (by kernel_rfl) (by rfl) ?_ ?_
          rotate_left
          · intro W; first | (go_simp; done) | (go_simp; with_reducible rfl)
          try simp only [Act.put, List.setIfInBounds_toArray, List.set_cons_zero, List.set_cons_succ]
          refine wpF_take (hb := hB) (i := 3) (oi := { dst := some 38, op := Op.load 5 (Operand.tmp 37), type := 5, pos := "law.go:64", after := #[{ on := 2, ground := Ground.data }], guard := none }) (v := ?_) rfl (by decide) (by kernel_rfl) (by kernel_rfl) (by kernel_rfl) (by kernel_rfl) (by kernel_rfl) (by rfl) ?_ ?_
          rotate_left
          · intro W hW; have hcW := cellK hck hW; first | (go_simp; done) | (go_simp; with_reducible rfl)
          try simp only [Act.put, List.setIfInBounds_toArray, List.set_cons_zero, List.set_cons_succ]
          refine wpF_pure (hb := .inr hB) (i := 4) (oi := { dst := some 39, op := Op.move (Operand.tmp 11), type := 3, pos := "law.go:64", after := #[], guard := none }) (v := ?_) rfl (by decide) (by kernel_rfl) (by kernel_rfl) (by kernel_rfl) (by rfl) ?_ ?_
          rotate_left
          · intro W; first | (go_simp; done) | (go_simp; with_reducible rfl)
          try simp only [Act.put, List.setIfInBounds_toArray, List.set_cons_zero, List.set_cons_succ]
          refine wpF_pure (hb := .inr hB) (i := 5) (oi := { dst := some 40, op := Op.indexAddr 29 (Operand.tmp 5) (Operand.tmp 39), type := 0, pos := "law.go:64", after := #[{ on := 4, ground := Ground.data }], guard := none }) (v := ?_) rfl (by decide) (by kernel_rfl) (by kernel_rfl) (by kernel_rfl) (by rfl) ?_ ?_
          rotate_left
          · intro W; first | (go_simp; done) | (go_simp; with_reducible rfl)
          try simp only [Act.put, List.setIfInBounds_toArray, List.set_cons_zero, List.set_cons_succ]
          refine wpF_take (hb := hB) (i := 6) (oi := { dst := some 41, op := Op.load 5 (Operand.tmp 40), type := 5, pos := "law.go:64", after := #[{ on := 5, ground := Ground.data }], guard := none }) (v := ?_) rfl (by decide) (by kernel_rfl) (by kernel_rfl) (by kernel_rfl) (by kernel_rfl) (by kernel_rfl) (by rfl) ?_ ?_
          rotate_left
          · intro W hW; have hcW := cellK hcm hW; first | (go_simp; done) | (go_simp; with_reducible rfl)
          try simp only [Act.put, List.setIfInBounds_toArray, List.set_cons_zero, List.set_cons_succ]
          refine wpF_pure (hb := .inr hB) (i := 7) (oi := { dst := some 42, op := Op.binOp BinOp.and 5 (Operand.tmp 41) (Operand.const (Value.int IntKind.u8 240)) 5, type := 5, pos := "law.go:64", after := #[{ on := 6, ground := Ground.data }], guard := none }) (v := ?_) rfl (by decide) (by kernel_rfl) (by kernel_rfl) (by kernel_rfl) (by rfl) ?_ ?_
          rotate_left
          · intro W; first | (go_simp; done) | (go_simp; with_reducible rfl)
          try simp only [Act.put, List.setIfInBounds_toArray, List.set_cons_zero, List.set_cons_succ]
          refine wpF_pure (hb := .inr hB) (i := 8) (oi := { dst := some 43, op := Op.binOp BinOp.xor 5 (Operand.tmp 38) (Operand.tmp 42) 5, type := 5, pos := "law.go:64", after := #[{ on := 3, ground := Ground.data }, { on := 7, ground := Ground.data }], guard := none }) (v := ?_) rfl (by decide) (by kernel_rfl) (by kernel_rfl) (by kernel_rfl) (by rfl) ?_ ?_
          rotate_left
          · intro W; first | (go_simp; done) | (go_simp; with_reducible rfl)
          try simp only [Act.put, List.setIfInBounds_toArray, List.set_cons_zero, List.set_cons_succ]
          refine wpF_pure (hb := .inr hB) (i := 9) (oi := { dst := some 44, op := Op.indexAddr 28 (Operand.tmp 3) (Operand.tmp 35), type := 0, pos := "law.go:64", after := #[{ on := 0, ground := Ground.data }, { on := 0, ground := Ground.phase }, { on := 1, ground := Ground.phase }, { on := 2, ground := Ground.phase }, { on := 3, ground := Ground.phase }, { on := 4, ground := Ground.phase }, { on := 5, ground := Ground.phase }, { on := 6, ground := Ground.phase }, { on := 7, ground := Ground.phase }, { on := 8, ground := Ground.phase }], guard := none }) (v := ?_) rfl (by decide) (by kernel_rfl) (by kernel_rfl) (by kernel_rfl) (by rfl) ?_ ?_
          rotate_left
          · intro W; first | (go_simp; done) | (go_simp; with_reducible rfl)
          try simp only [Act.put, List.setIfInBounds_toArray, List.set_cons_zero, List.set_cons_succ]
          refine wpF_do (i := 10) (o := { dst := none, op := Op.store 5 (Operand.tmp 44) (Operand.tmp 43), type := 0, pos := "law.go:64", after := #[{ on := 9, ground := Ground.data }, { on := 8, ground := Ground.data }, { on := 0, ground := Ground.phase }, { on := 1, ground := Ground.phase }, { on := 2, ground := Ground.phase }, { on := 3, ground := Ground.phase }, { on := 4, ground := Ground.phase }, { on := 5, ground := Ground.phase }, { on := 6, ground := Ground.phase }, { on := 7, ground := Ground.phase }, { on := 8, ground := Ground.phase }], guard := none }) (by kernel_rfl) rfl (by rfl) fun K hK => ?_
          go_simp
          refine hK.out _ _ (.inl rfl) ?_
          clear hK K
          try simp only [Act.put, List.setIfInBounds_toArray, List.set_cons_zero, List.set_cons_succ]
          refine wpF_done (by kernel_rfl) ?_
          obtain ⟨h1, h2⟩ := HR.out _ hB
          go_wp2
          go_roundw
          case rel => exact ⟨i + 1, by omega, by go_num, h1, h2⟩
          case measure => simp [intOf] <;> omega
        · have t1 : (i : Int).tmod 4 = 0 := by rw [Int.tmod_eq_emod_of_nonneg (by omega)]; omega
          have t2 : (i : Int) % 4 = 0 := by omega
          have t3 : (0 : Int) < (i : Int) := by omega
          have t4 : decide ((0 : Int) < (i : Int)) = true := decide_eq_true (by omega)
          have e1 : bits .and .u8 ((m.getD i 0).toNat : Int) 3 = (((m.getD i 0 &&& 3).toNat : Nat) : Int) := byte_and _ 3
          have e2 := byte_xor (k.getD i 0) (m.getD i 0 &&& 3)
          rw [← twB_0 k m i hlt h0 hp] at e2
          have HR : Hid _ := HR0.out
          generalize ((twL k m).getD i 0).toNat = z at e2 HR
          generalize (m.getD i 0 &&& 3).toNat = y2 at e1 e2
          generalize (m.getD i 0).toNat = y at e1 hcm
          generalize (k.getD i 0).toNat = x at e2 hck
          clear HR0 rk kp h0
          go_wp2_with fail
          have hB : Below wr.heap.size wr wr.drew := (Below.refl _ _).drew
          refine wpF_begin 10 (w0 := wr) (by kernel_rfl) ?_
          refine wpF_pure (hb := .inr hB) (i := 0) (oi := { dst := some 52, op := Op.move (Operand.tmp 11), type := 3, pos := "law.go:67", after := #[], guard := none }) (v := ?_) rfl (by decide) (by kernel_rfl) (by kernel_rfl) (by kernel_rfl) (by rfl) ?_ ?_
          rotate_left
          · intro W; first | (go_simp; done) | (go_simp; with_reducible rfl)
          try simp only [Act.put, List.setIfInBounds_toArray, List.set_cons_zero, List.set_cons_succ]
          refine wpF_pure (hb := .inr hB) (i := 1) (oi := { dst := some 53, op := Op.move (Operand.tmp 11), type := 3, pos := "law.go:67", after := #[], guard := none }) (v := ?_) rfl (by decide) (by kernel_rfl) (by kernel_rfl) (by kernel_rfl) (by rfl) ?_ ?_
          rotate_left
          · intro W; first | (go_simp; done) | (go_simp; with_reducible rfl)
          try simp only [Act.put, List.setIfInBounds_toArray, List.set_cons_zero, List.set_cons_succ]
          refine wpF_pure (hb := .inr hB) (i := 2) (oi := { dst := some 54, op := Op.indexAddr 28 (Operand.tmp 3) (Operand.tmp 53), type := 0, pos := "law.go:67", after := #[{ on := 1, ground := Ground.data }], guard := none }) (v := ?_) rfl (by decide) (by kernel_rfl) (by kernel_rfl) (by kernel_rfl) (by rfl) ?_ ?_
          rotate_left
          · intro W; first | (go_simp; done) | (go_simp; with_reducible rfl)
          try simp only [Act.put, List.setIfInBounds_toArray, List.set_cons_zero, List.set_cons_succ]
          refine wpF_take (hb := hB) (i := 3) (oi := { dst := some 55, op := Op.load 5 (Operand.tmp 54), type := 5, pos := "law.go:67", after := #[{ on := 2, ground := Ground.data }], guard := none }) (v := ?_) rfl (by decide) (by kernel_rfl) (by kernel_rfl) (by kernel_rfl) (by kernel_rfl) (by kernel_rfl) (by rfl) ?_ ?_
          rotate_left
          · intro W hW; have hcW := cellK hck hW; first | (go_simp; done) | (go_simp; with_reducible rfl)
          try simp only [Act.put, List.setIfInBounds_toArray, List.set_cons_zero, List.set_cons_succ]
          refine wpF_pure (hb := .inr hB) (i := 4) (oi := { dst := some 56, op := Op.move (Operand.tmp 11), type := 3, pos := "law.go:67", after := #[], guard := none }) (v := ?_) rfl (by decide) (by kernel_rfl) (by kernel_rfl) (by kernel_rfl) (by rfl) ?_ ?_
          rotate_left
          · intro W; first | (go_simp; done) | (go_simp; with_reducible rfl)
          try simp only [Act.put, List.setIfInBounds_toArray, List.set_cons_zero, List.set_cons_succ]
          refine wpF_pure (hb := .inr hB) (i := 5) (oi := { dst := some 57, op := Op.indexAddr 29 (Operand.tmp 5) (Operand.tmp 56), type := 0, pos := "law.go:67", after := #[{ on := 4, ground := Ground.data }], guard := none }) (v := ?_) rfl (by decide) (by kernel_rfl) (by kernel_rfl) (by kernel_rfl) (by rfl) ?_ ?_
          rotate_left
          · intro W; first | (go_simp; done) | (go_simp; with_reducible rfl)
          try simp only [Act.put, List.setIfInBounds_toArray, List.set_cons_zero, List.set_cons_succ]
          refine wpF_take (hb := hB) (i := 6) (oi := { dst := some 58, op := Op.load 5 (Operand.tmp 57), type := 5, pos := "law.go:67", after := #[{ on := 5, ground := Ground.data }], guard := none }) (v := ?_) rfl (by decide) (by kernel_rfl) (by kernel_rfl) (by kernel_rfl) (by kernel_rfl) (by kernel_rfl) (by rfl) ?_ ?_
          rotate_left
          · intro W hW; have hcW := cellK hcm hW; first | (go_simp; done) | (go_simp; with_reducible rfl)
          try simp only [Act.put, List.setIfInBounds_toArray, List.set_cons_zero, List.set_cons_succ]
          refine wpF_pure (hb := .inr hB) (i := 7) (oi := { dst := some 59, op := Op.binOp BinOp.and 5 (Operand.tmp 58) (Operand.const (Value.int IntKind.u8 3)) 5, type := 5, pos := "law.go:67", after := #[{ on := 6, ground := Ground.data }], guard := none }) (v := ?_) rfl (by decide) (by kernel_rfl) (by kernel_rfl) (by kernel_rfl) (by rfl) ?_ ?_
          rotate_left
          · intro W; first | (go_simp; done) | (go_simp; with_reducible rfl)
          try simp only [Act.put, List.setIfInBounds_toArray, List.set_cons_zero, List.set_cons_succ]
          refine wpF_pure (hb := .inr hB) (i := 8) (oi := { dst := some 60, op := Op.binOp BinOp.xor 5 (Operand.tmp 55) (Operand.tmp 59) 5, type := 5, pos := "law.go:67", after := #[{ on := 3, ground := Ground.data }, { on := 7, ground := Ground.data }], guard := none }) (v := ?_) rfl (by decide) (by kernel_rfl) (by kernel_rfl) (by kernel_rfl) (by rfl) ?_ ?_
          rotate_left
          · intro W; first | (go_simp; done) | (go_simp; with_reducible rfl)
          try simp only [Act.put, List.setIfInBounds_toArray, List.set_cons_zero, List.set_cons_succ]
          refine wpF_pure (hb := .inr hB) (i := 9) (oi := { dst := some 61, op := Op.indexAddr 28 (Operand.tmp 3) (Operand.tmp 52), type := 0, pos := "law.go:67", after := #[{ on := 0, ground := Ground.data }, { on := 0, ground := Ground.phase }, { on := 1, ground := Ground.phase }, { on := 2, ground := Ground.phase }, { on := 3, ground := Ground.phase }, { on := 4, ground := Ground.phase }, { on := 5, ground := Ground.phase }, { on := 6, ground := Ground.phase }, { on := 7, ground := Ground.phase }, { on := 8, ground := Ground.phase }], guard := none }) (v := ?_) rfl (by decide) (by kernel_rfl) (by kernel_rfl) (by kernel_rfl) (by rfl) ?_ ?_
          rotate_left
          · intro W; first | (go_simp; done) | (go_simp; with_reducible rfl)
          try simp only [Act.put, List.setIfInBounds_toArray, List.set_cons_zero, List.set_cons_succ]
          refine wpF_do (i := 10) (o := { dst := none, op := Op.store 5 (Operand.tmp 61) (Operand.tmp 60), type := 0, pos := "law.go:67", after := #[{ on := 9, ground := Ground.data }, { on := 8, ground := Ground.data }, { on := 0, ground := Ground.phase }, { on := 1, ground := Ground.phase }, { on := 2, ground := Ground.phase }, { on := 3, ground := Ground.phase }, { on := 4, ground := Ground.phase }, { on := 5, ground := Ground.phase }, { on := 6, ground := Ground.phase }, { on := 7, ground := Ground.phase }, { on := 8, ground := Ground.phase }], guard := none }) (by kernel_rfl) rfl (by rfl) fun K hK => ?_
          go_simp
          refine hK.out _ _ (.inl rfl) ?_
          clear hK K
          try simp only [Act.put, List.setIfInBounds_toArray, List.set_cons_zero, List.set_cons_succ]
          refine wpF_done (by kernel_rfl) ?_
          obtain ⟨h1, h2⟩ := HR.out _ hB
          go_wp2
          go_roundw
          case rel => exact ⟨i + 1, by omega, by go_num, h1, h2⟩
          case measure => simp [intOf] <;> omega
        · obtain ⟨r4, hr4, hr4l, hrn⟩ : ∃ r : Nat, r = i % 4 ∧ r < 4 ∧ r ≠ 3 := ⟨_, rfl, Nat.mod_lt _ (by decide), hn3⟩
          have t1 : (i : Int).tmod 4 = (r4 : Int) := by rw [Int.tmod_eq_emod_of_nonneg (by omega)]; omega
          have t2 : (i : Int) % 4 = (r4 : Int) := by omega
          have t5 : ((r4 : Int) == 3) = false := by simp; omega
          have hs := mxB_same HTl.out HK.out i (by omega) (twB_no k m i (by omega) hn3 hn0)
          rw [← hs] at rk
          have R1 : Hid _ := rk
          have K1 : Hid _ := kp
          have hcase : r4 ≠ 0 ∨ (r4 = 0 ∧ i = 0) := by omega
          clear HR0 rk kp hck hcm hfk hs hr4 hn0
          rcases hcase with hz | ⟨rfl, rfl⟩
          · have t6 : ((r4 : Int) == 0) = false := by simp; omega
            clear hz hrn hr4l
            go_wp2
            go_roundw
            case rel => exact ⟨i + 1, by omega, by go_num, R1.out, K1.out⟩
            case measure => simp [intOf] <;> omega
          · clear hrn hr4l
            go_wp2
            go_roundw
            case rel => exact ⟨1, by omega, by go_num, R1.out, K1.out⟩
            case measure => simp [intOf]
      · have hie : i = 16 := by omega
        have hd : decide ((i : Int) < 16) = false := decide_eq_false (by omega)
        have hiI : (16 : Int) ≤ (i : Int) := by omega
        rw [hie, mxB_end 16 (drop_tw k m HK.out)] at rk
        have kk := rk.rdB
        rw [HTl.out] at kk
        have HKr : Hid (Rd wr (.slice (some ⟨w.heap.size, 0, none⟩) 32 32) (twL k m)) := kk
        clear hie kk
        go_wp2_with fail
        refine (pmac_any _ _ (twL k m) b _ (HT.out.kept kp.below) HKr.out (HB.out.kept kp.below) HTl.out).mono ?_
        rintro e wd ⟨vy, rfl, hNy⟩
        rw [HX1.out] at hNy
        have hoy : wd.ownsRow wa.heap.size 5 1 vy (mcP k b).length ((mcP k b).map bv) := own_mono hNy.1 kp.size
        have hKp := kp.kept hNy.2
        have hrk : RowAt .u8 28 w.heap.size 32 (byI (mxB (zfL k) (twL k m) 0)) wd := by rw [mxB_zero]; exact rk.kept hNy.2
        have HZl : Hid ((zfL k).length = 32) := zfL_length k HK.out
        clear hNy kp rk HKr
        go_wp2
        go_loopw [13] (fun iv wx => ∃ i : Nat, i ≤ 16 ∧ iv = .int .i64 (i : Int) ∧ RowAt .u8 28 w.heap.size 32 (byI (mxB (zfL k) (twL k m) i)) wx ∧ Kp8 w wa w.heap.size w1.heap.size vx vw U (mcP k b) m wx ∧ wx.ownsRow wa.heap.size 5 1 vy (mcP k b).length ((mcP k b).map bv)) (fun iv _ => 16 - (intOf iv).toNat)
        case atStart => exact ⟨0, by omega, rfl, hrk, hKp, hoy⟩
        case round =>
          obtain ⟨j, hj, rfl, rk, kp, oy⟩ := hrel
          clear hrk hKp hoy
          by_cases hltj : j < 16
          · have hdj : decide ((j : Int) < 16) = true := decide_eq_true (by omega)
            have hjI : (j : Int) < 16 := by omega
            have hjJ : (j : Int) < 32 := by omega
            have hck := rk.cellB (j := j) (by rw [mxB_len HZl.out HTl.out j (by omega)]; omega)
            have hfk := rk.free j
            have h1 := rk.setB j ((zfL k).getD j 0)
            rw [mxB_set HZl.out HTl.out j (by omega), zfL_get k j hltj] at h1
            have R1 : Hid _ := h1
            have K1 : Hid _ := kp.set (by omega) (by omega) (Nat.le_refl _) j (.int .u8 ((0 : UInt8).toNat : Int))
            have O1 : Hid _ := own_set8 (g0 := w.heap.size) oy (by omega) j (.int .u8 ((0 : UInt8).toNat : Int))
            clear h1 rk kp oy
            go_wp2
            go_roundw
            case rel => exact ⟨j + 1, by omega, by go_num, R1.out, K1.out, O1.out⟩
            case measure => simp [intOf] <;> omega
          · have hje : j = 16 := by omega
            have hdj : decide ((j : Int) < 16) = false := decide_eq_false (by omega)
            have hjI : (16 : Int) ≤ (j : Int) := by omega
            rw [hje, mxB_end 16 (zf_drop k m HK.out)] at rk
            have kk := rk.rdB
            rw [HZl.out] at kk
            have HKr : Hid (Rd _ (.slice (some ⟨w.heap.size, 0, none⟩) 32 32) (zfL k)) := kk
            clear hje kk
            go_wp2_with fail
            refine (pmac_any _ _ (zfL k) b _ (HT.out.kept kp.below) HKr.out (HB.out.kept kp.below) HZl.out).mono ?_
            rintro e wf ⟨vz, rfl, hNz⟩
            rw [HX2.out] at hNz
            have c1 := conv_any (Rd.of_row (ownsRow_below kp.ox hNz.2))
            have c2 := conv_any (Rd.of_row (ownsRow_below kp.ow hNz.2))
            have c3 := conv_any (Rd.of_row (ownsRow_below oy hNz.2))
            have c4 := conv_any hNz.rd
            have HBz : Hid _ := stepB kp.below hNz.2
            clear hNz kp oy rk HKr
            go_wp2
            go_ret
            exact ⟨rfl, HBz.out⟩
  · have d1 : decide ((2000 : Int) < (b.length : Int)) = true := decide_eq_true (by omega)
    have g1 : (2000 : Int) < (b.length : Int) := by omega
    go_wp2
    go_ret
    exact ⟨rfl, hbw⟩
end Go.Proofs.YtcelhlpopdcaaaaDoor
