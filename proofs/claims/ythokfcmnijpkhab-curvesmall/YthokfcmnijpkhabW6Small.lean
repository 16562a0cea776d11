/- What the law CurveSmall answers at every input: the walk. -/
import Derived.Test.YthokfcmnijpkhabV06h
import Derived.Deep.CutBlock
import Derived.Deep.DeepCutAuto
namespace Go.Proofs.Ythokfcmnijpkhab
open Go.ChangeShapes Go.WideShapes Go.ChangeAt Go.RowKit
set_option linter.unusedSimpArgs false
set_option linter.unusedVariables false

theorem max32 {l : List UInt8} (h : l.length = 32) : (byI l).length ≤ maxLen := by
  rw [byI_length, h]
  decide
theorem ne32 {l : List UInt8} (h : l.length = 32) : byI l ≠ [] := byI_ne (by rw [← List.length_pos_iff]; omega)
theorem top_bit (y : UInt8) : (y ^^^ 128).toNat % 128 = y.toNat % 128 := by
  have h : ∀ n : Fin 256, ((UInt8.ofNat n.val) ^^^ 128).toNat % 128 = (UInt8.ofNat n.val).toNat % 128 := by decide +kernel
  have := h ⟨y.toNat, y.toNat_lt⟩
  simpa using this
theorem dec_turn (b : List UInt8) (h : b.length = 32) : decN (b.set 31 (b.getD 31 0 ^^^ 128)) = decN b := by
  have e0 : b = b.take 31 ++ [b.getD 31 0] := by
    have h1 := List.take_succ_eq_append_getElem (l := b) (i := 31) (by omega)
    rw [List.take_of_length_le (by omega)] at h1
    have h2 : b.getD 31 0 = b[31] := by simp [h]
    rw [h2]
    exact h1
  have hl : (b.take 31).length = 31 := by rw [List.length_take]; omega
  have key : ∀ y : UInt8, leN (b.take 31 ++ [y]) % 57896044618658097711785492504343953926634992332820282019728792003956564819968 = (leN (b.take 31) + 256 ^ 31 * (y.toNat % 128)) % 57896044618658097711785492504343953926634992332820282019728792003956564819968 := by
    intro y
    rw [leN_snoc, hl]
    have := y.toNat_lt
    generalize leN (b.take 31) = q
    generalize y.toNat = t
    omega
  have e1 : (b.set 31 (b.getD 31 0 ^^^ 128)).take 32 = b.take 31 ++ [b.getD 31 0 ^^^ 128] := by
    rw [List.take_of_length_le (by rw [List.length_set]; omega)]
    have e2 : b.set 31 (b.getD 31 0 ^^^ 128) = (b.take 31 ++ [b.getD 31 0]).set 31 (b.getD 31 0 ^^^ 128) := by rw [← e0]
    rw [e2, List.set_append_right _ _ (by omega), hl]
    rfl
  unfold decN
  rw [e1, key, top_bit, ← key, ← e0, List.take_of_length_le (by omega)]
/-- What a call made stays where only older blocks are written. -/
theorem New.over {S : Nat → Prop} {e : TypeId} {w wr w2 : World} {v : Value} {l : List UInt8} (h : New e w v l wr) (c : Chg S wr w2) (hS : ∀ b, S b → b < w.heap.size) : Rd w2 v l := by
  refine Rd.of_row (own_chg h.1 c fun g hg hs => ?_)
  rcases h.1.2 with ⟨rfl, -⟩ | ⟨g', cap, cur, rfl, hb, -⟩
  · simp [Value.ownBlock] at hg
  · have h1 : g' = g := by simpa [Value.ownBlock] using hg
    have h2 := hS g hs
    omega

/-- A point of small order, by its bytes. -/
def Su (u : List UInt8) : Prop := u.length = 32 ∧ (decN u % pN = 0 ∨ decN u % pN = 1 ∨ decN u % pN = pN - 1)
theorem Su.nought {k u : List UInt8} (h : Su u) (hk : k.length = 32) : scN k u = 0 := by
  rcases h.2 with h | h | h
  · exact scN_zero hk h
  · exact scN_one hk h
  · exact scN_last hk h
theorem Su.turn {u : List UInt8} (h : Su u) : Su (u.set 31 (u.getD 31 0 ^^^ 128)) := ⟨by rw [List.length_set, h.1], by rw [dec_turn u h.1]; exact h.2⟩
/-- Some bytes 255, then noughts. -/
def ffB (i : Nat) : List UInt8 := List.replicate i 255 ++ List.replicate (32 - i) 0
theorem ffB_zero : ffB 0 = zs32 := rfl
theorem ffB_length (i : Nat) (h : i ≤ 32) : (ffB i).length = 32 := by
  simp [ffB]
  omega
theorem ffB_next : ∀ i, i < 32 → (ffB i).set i 255 = ffB (i + 1) := by decide +kernel
theorem su0 : Su zs32 := ⟨by decide, .inl (by decide +kernel)⟩
theorem su1 : Su (zs32.set 0 1) := ⟨by decide, .inr (.inl (by decide +kernel))⟩
theorem su2 : Su (((ffB 32).set 0 236).set 31 127) := ⟨by decide, .inr (.inr (by decide +kernel))⟩
theorem su3 : Su (((ffB 32).set 0 237).set 31 127) := ⟨by decide, .inl (by decide +kernel)⟩
theorem su4 : Su (((ffB 32).set 0 238).set 31 127) := ⟨by decide, .inr (.inl (by decide +kernel))⟩
theorem repl_get (i : Nat) : (List.replicate 32 (0 : UInt8)).getD i 0 = 0 := by
  rw [List.getD_eq_getElem?_getD, List.getElem?_replicate]
  split <;> rfl

set_option maxRecDepth 100000 in
set_option maxHeartbeats 8000000 in
theorem small_walk (Ka : Array Value) (k : List UInt8) (hk : k.length = 32) (hKa : Ka = ((byI k).map (Value.int .u8)).toArray) (n : Int) (t : Bool) (w : World) :
    Calls Try.prog 3 #[.agg Ka, .int .i64 n, .bool t] w fun e w' => e = .returned (.bool true) ∧ Below w.heap.size w w' := by
  have HK : Hid (k.length = 32) := hk
  obtain ⟨X, hX, hXa⟩ := and_small n 255 (by decide)
  have hXa' : bits .and .i64 n 255 = (X : Int) := hXa
  clear hXa
  go_enter Try.func3, Try.ntmps3
  go_wp2_with (refine wpList_box_row (k := .u8) rfl 22 _ rfl (byI k) (by rw [← hKa]; rfl) (ne32 hk) (max32 hk) ?_)
  intro w1 rk bn sn
  rw [byI_length, hk] at rk
  have hbw := bn
  clear bn sn hKa hk
  go_wp2_with fail
  refine (awake_any _).mono ?_
  rintro e wa ⟨rfl, bn⟩
  replace rk := rk.kept bn
  replace hbw := stepB hbw bn
  clear bn
  go_wp2_with (refine wpList_alloc_row (k := .u8) rfl 22 rfl (byI zs32) (alloc32 _) (byI_ne zs32_ne) (by rw [byI_length, zs32_length]; decide) ?_)
  intro w2 ru bn sn
  rw [byI_length, zs32_length] at ru
  have hlk := rk.lt
  have hge := hbw.size
  replace rk := rk.kept bn
  replace hbw := stepB hbw bn
  clear bn sn
  go_upto_block 0 with fail
  go_cut [8] (fun v wx => ∃ u : List UInt8, v = .pointer (some ⟨wa.heap.size, 0, none⟩) ∧ Hid (Su u) ∧ RowAt .u8 22 wa.heap.size 32 (byI u) wx ∧ RowAt .u8 22 w.heap.size 32 (byI k) wx ∧ Below w.heap.size w wx)
  case first =>
    have hc : X % 5 = 0 ∨ X % 5 = 1 ∨ X % 5 = 2 ∨ X % 5 = 3 ∨ X % 5 = 4 := by omega
    rcases hc with hc | hc | hc | hc | hc
    · have hm : (X : Int) % 5 = 0 := by omega
      clear hc
      go_wp2_with fail
      go_meet
      exact ⟨zs32, rfl, su0, ru, rk, hbw⟩
    · have hm : (X : Int) % 5 = 1 := by omega
      clear hc
      have c0 := ru.cellB (j := 0) (by rw [zs32_length]; decide)
      have f0 := ru.free 0
      have rn := ru.setB 0 1
      have rk2 := rk.other (p := ⟨wa.heap.size, 0, none⟩) (by show wa.heap.size ≠ _; omega) (.int .u8 (((1 : UInt8).toNat : Nat) : Int))
      have b2 := (Wrote.set wa.heap.size 0 w2 (.int .u8 (((1 : UInt8).toNat : Nat) : Int))).below _ _ hge hbw
      clear ru rk hbw
      go_wp2_with fail
      go_meet
      exact ⟨zs32.set 0 1, rfl, su1, rn, rk2, b2⟩
    · have hm : (X : Int) % 5 = 2 := by omega
      clear hc
      go_wp2_with fail
      go_loopw [9] (fun iv wx => ∃ i : Nat, i ≤ 32 ∧ iv = .int .i64 (i : Int) ∧ RowAt .u8 22 wa.heap.size 32 (byI (ffB i)) wx ∧ RowAt .u8 22 w.heap.size 32 (byI k) wx ∧ Below w.heap.size w wx) (fun iv _ => 32 - (intOf iv).toNat)
      case atStart => exact ⟨0, by omega, rfl, ru, rk, hbw⟩
      case round =>
        obtain ⟨i, hi, rfl, ra, rk', hb⟩ := hrel
        clear ru rk hbw
        by_cases hlt : i < 32
        · have hd : decide ((i : Int) < 32) = true := decide_eq_true (by omega)
          have hiI : (i : Int) < 32 := by omega
          have hc := ra.cellB (j := i) (by rw [ffB_length i hi]; exact hlt)
          have hf := ra.free i
          have rn := ra.setB i 255
          rw [ffB_next i hlt] at rn
          have rk2 := rk'.other (p := ⟨wa.heap.size, i, none⟩) (by show wa.heap.size ≠ _; omega) (.int .u8 (((255 : UInt8).toNat : Nat) : Int))
          have hbn : Below w.heap.size w (wr.setCell ⟨wa.heap.size, i, none⟩ (.int .u8 (((255 : UInt8).toNat : Nat) : Int))) := (Wrote.set wa.heap.size i wr _).below _ _ hge hb
          clear ra hb rk'
          go_wp2
          go_roundw
          case rel => exact ⟨i + 1, by omega, by go_num, rn, rk2, hbn⟩
          case measure => simp [intOf] <;> omega
        · have hie : i = 32 := by omega
          have hd : decide ((i : Int) < 32) = false := decide_eq_false (by omega)
          have hiI : (32 : Int) ≤ (i : Int) := by omega
          rw [hie] at ra
          have c0 := ra.cellB (j := 0) (by rw [ffB_length 32 (by omega)]; decide)
          have f0 := ra.free 0
          have rn := ra.setB 0 236
          have c1 : (wr.setCell ⟨wa.heap.size, 0, none⟩ (.int .u8 236)).cell? ⟨wa.heap.size, 31, none⟩ = _ := rn.cellB (j := 31) (by rw [List.length_set, ffB_length 32 (by omega)]; decide)
          have f31 := ra.free 31
          have f1 : (wr.setCell ⟨wa.heap.size, 0, none⟩ (.int .u8 236)).frozen? ⟨wa.heap.size, 31, none⟩ = false := rn.free 31
          have rn2 := rn.setB 31 127
          have rk2 := (rk'.other (p := ⟨wa.heap.size, 0, none⟩) (by show wa.heap.size ≠ _; omega) (.int .u8 (((236 : UInt8).toNat : Nat) : Int))).other (p := ⟨wa.heap.size, 31, none⟩) (by show wa.heap.size ≠ _; omega) (.int .u8 (((127 : UInt8).toNat : Nat) : Int))
          have b2 := (Wrote.set wa.heap.size 31 _ (.int .u8 (((127 : UInt8).toNat : Nat) : Int))).below _ _ hge ((Wrote.set wa.heap.size 0 wr (.int .u8 (((236 : UInt8).toNat : Nat) : Int))).below _ _ hge hb)
          clear hie ra rk' hb rn
          go_wp2_with fail
          go_meet
          exact ⟨((ffB 32).set 0 236).set 31 127, rfl, su2, rn2, rk2, b2⟩
    · have hm : (X : Int) % 5 = 3 := by omega
      clear hc
      go_wp2_with fail
      go_loopw [10] (fun iv wx => ∃ i : Nat, i ≤ 32 ∧ iv = .int .i64 (i : Int) ∧ RowAt .u8 22 wa.heap.size 32 (byI (ffB i)) wx ∧ RowAt .u8 22 w.heap.size 32 (byI k) wx ∧ Below w.heap.size w wx) (fun iv _ => 32 - (intOf iv).toNat)
      case atStart => exact ⟨0, by omega, rfl, ru, rk, hbw⟩
      case round =>
        obtain ⟨i, hi, rfl, ra, rk', hb⟩ := hrel
        clear ru rk hbw
        by_cases hlt : i < 32
        · have hd : decide ((i : Int) < 32) = true := decide_eq_true (by omega)
          have hiI : (i : Int) < 32 := by omega
          have hc := ra.cellB (j := i) (by rw [ffB_length i hi]; exact hlt)
          have hf := ra.free i
          have rn := ra.setB i 255
          rw [ffB_next i hlt] at rn
          have rk2 := rk'.other (p := ⟨wa.heap.size, i, none⟩) (by show wa.heap.size ≠ _; omega) (.int .u8 (((255 : UInt8).toNat : Nat) : Int))
          have hbn : Below w.heap.size w (wr.setCell ⟨wa.heap.size, i, none⟩ (.int .u8 (((255 : UInt8).toNat : Nat) : Int))) := (Wrote.set wa.heap.size i wr _).below _ _ hge hb
          clear ra hb rk'
          go_wp2
          go_roundw
          case rel => exact ⟨i + 1, by omega, by go_num, rn, rk2, hbn⟩
          case measure => simp [intOf] <;> omega
        · have hie : i = 32 := by omega
          have hd : decide ((i : Int) < 32) = false := decide_eq_false (by omega)
          have hiI : (32 : Int) ≤ (i : Int) := by omega
          rw [hie] at ra
          have c0 := ra.cellB (j := 0) (by rw [ffB_length 32 (by omega)]; decide)
          have f0 := ra.free 0
          have rn := ra.setB 0 237
          have c1 : (wr.setCell ⟨wa.heap.size, 0, none⟩ (.int .u8 237)).cell? ⟨wa.heap.size, 31, none⟩ = _ := rn.cellB (j := 31) (by rw [List.length_set, ffB_length 32 (by omega)]; decide)
          have f31 := ra.free 31
          have f1 : (wr.setCell ⟨wa.heap.size, 0, none⟩ (.int .u8 237)).frozen? ⟨wa.heap.size, 31, none⟩ = false := rn.free 31
          have rn2 := rn.setB 31 127
          have rk2 := (rk'.other (p := ⟨wa.heap.size, 0, none⟩) (by show wa.heap.size ≠ _; omega) (.int .u8 (((237 : UInt8).toNat : Nat) : Int))).other (p := ⟨wa.heap.size, 31, none⟩) (by show wa.heap.size ≠ _; omega) (.int .u8 (((127 : UInt8).toNat : Nat) : Int))
          have b2 := (Wrote.set wa.heap.size 31 _ (.int .u8 (((127 : UInt8).toNat : Nat) : Int))).below _ _ hge ((Wrote.set wa.heap.size 0 wr (.int .u8 (((237 : UInt8).toNat : Nat) : Int))).below _ _ hge hb)
          clear hie ra rk' hb rn
          go_wp2_with fail
          go_meet
          exact ⟨((ffB 32).set 0 237).set 31 127, rfl, su3, rn2, rk2, b2⟩
    · have hm : (X : Int) % 5 = 4 := by omega
      clear hc
      go_wp2_with fail
      go_loopw [11] (fun iv wx => ∃ i : Nat, i ≤ 32 ∧ iv = .int .i64 (i : Int) ∧ RowAt .u8 22 wa.heap.size 32 (byI (ffB i)) wx ∧ RowAt .u8 22 w.heap.size 32 (byI k) wx ∧ Below w.heap.size w wx) (fun iv _ => 32 - (intOf iv).toNat)
      case atStart => exact ⟨0, by omega, rfl, ru, rk, hbw⟩
      case round =>
        obtain ⟨i, hi, rfl, ra, rk', hb⟩ := hrel
        clear ru rk hbw
        by_cases hlt : i < 32
        · have hd : decide ((i : Int) < 32) = true := decide_eq_true (by omega)
          have hiI : (i : Int) < 32 := by omega
          have hc := ra.cellB (j := i) (by rw [ffB_length i hi]; exact hlt)
          have hf := ra.free i
          have rn := ra.setB i 255
          rw [ffB_next i hlt] at rn
          have rk2 := rk'.other (p := ⟨wa.heap.size, i, none⟩) (by show wa.heap.size ≠ _; omega) (.int .u8 (((255 : UInt8).toNat : Nat) : Int))
          have hbn : Below w.heap.size w (wr.setCell ⟨wa.heap.size, i, none⟩ (.int .u8 (((255 : UInt8).toNat : Nat) : Int))) := (Wrote.set wa.heap.size i wr _).below _ _ hge hb
          clear ra hb rk'
          go_wp2
          go_roundw
          case rel => exact ⟨i + 1, by omega, by go_num, rn, rk2, hbn⟩
          case measure => simp [intOf] <;> omega
        · have hie : i = 32 := by omega
          have hd : decide ((i : Int) < 32) = false := decide_eq_false (by omega)
          have hiI : (32 : Int) ≤ (i : Int) := by omega
          rw [hie] at ra
          have c0 := ra.cellB (j := 0) (by rw [ffB_length 32 (by omega)]; decide)
          have f0 := ra.free 0
          have rn := ra.setB 0 238
          have c1 : (wr.setCell ⟨wa.heap.size, 0, none⟩ (.int .u8 238)).cell? ⟨wa.heap.size, 31, none⟩ = _ := rn.cellB (j := 31) (by rw [List.length_set, ffB_length 32 (by omega)]; decide)
          have f31 := ra.free 31
          have f1 : (wr.setCell ⟨wa.heap.size, 0, none⟩ (.int .u8 238)).frozen? ⟨wa.heap.size, 31, none⟩ = false := rn.free 31
          have rn2 := rn.setB 31 127
          have rk2 := (rk'.other (p := ⟨wa.heap.size, 0, none⟩) (by show wa.heap.size ≠ _; omega) (.int .u8 (((238 : UInt8).toNat : Nat) : Int))).other (p := ⟨wa.heap.size, 31, none⟩) (by show wa.heap.size ≠ _; omega) (.int .u8 (((127 : UInt8).toNat : Nat) : Int))
          have b2 := (Wrote.set wa.heap.size 31 _ (.int .u8 (((127 : UInt8).toNat : Nat) : Int))).below _ _ hge ((Wrote.set wa.heap.size 0 wr (.int .u8 (((238 : UInt8).toNat : Nat) : Int))).below _ _ hge hb)
          clear hie ra rk' hb rn
          go_wp2_with fail
          go_meet
          exact ⟨((ffB 32).set 0 238).set 31 127, rfl, su4, rn2, rk2, b2⟩
  case rest =>
  obtain ⟨u, rfl, HU, ru2, rk2, hb2⟩ := hcut
  clear ru rk hbw hX hXa'
  rename World => wc
  cases t
  case' false =>
    have hU : Su u := HU.out
    have kk := rk2.rdB
    have ku := ru2.rdB
    have hbw := hb2
    clear ru2 rk2 hb2
  case' true =>
    have hU : Su _ := HU.out.turn
    have c1 := ru2.cellB (j := 31) (by rw [HU.out.1]; decide)
    have f1 := ru2.free 31
    have xx : bits .xor .u8 (((u.getD 31 0).toNat : Nat) : Int) 128 = (((u.getD 31 0 ^^^ 128).toNat : Nat) : Int) := byte_xor _ 128
    have rn := ru2.setB 31 (u.getD 31 0 ^^^ 128)
    have rk3 := rk2.other (p := ⟨wa.heap.size, 31, none⟩) (by show wa.heap.size ≠ _; omega) (.int .u8 (((u.getD 31 0 ^^^ 128).toNat : Nat) : Int))
    have hbw := (Wrote.set wa.heap.size 31 wc (.int .u8 (((u.getD 31 0 ^^^ 128).toNat : Nat) : Int))).below _ _ hge hb2
    generalize u.set 31 (u.getD 31 0 ^^^ 128) = u' at hU rn
    generalize u.getD 31 0 ^^^ 128 = y' at xx rn rk3 hbw
    generalize u.getD 31 0 = y at xx c1
    have kk := rk3.rdB
    have ku := rn.rdB
    clear rn rk3 ru2 rk2 hb2 HU
  all_goals
    have HU2 : Hid (Su _) := hU
    rw [HK.out] at kk
    rw [hU.1] at ku
    have KK : Hid (Rd _ _ _) := kk.drew
    have KU : Hid (Rd _ _ _) := ku.drew
    have HB : Hid (Below _ _ _) := hbw.drew
    clear hU kk ku hbw
    go_wp2_with fail
    refine wpG_begin (by kernel_rfl) ?_
    refine wpG_take (i := 0) (oi := { dst := some 63, op := Op.slice 22 (Operand.tmp 3) none none none, type := 24, pos := "law.go:141", after := #[], guard := none }) (v := ?_) rfl (by kernel_rfl) (by kernel_rfl) (by kernel_rfl) (by rfl) ?_ ?_
    rotate_left
    · intro W hW; first | (go_simp; done) | (go_simp; with_reducible rfl)
    try simp only [Act.put, List.setIfInBounds_toArray, List.set_cons_zero, List.set_cons_succ]
    refine wpG_take (i := 1) (oi := { dst := some 64, op := Op.slice 22 (Operand.tmp 8) none none none, type := 24, pos := "law.go:141", after := #[], guard := none }) (v := ?_) rfl (by kernel_rfl) (by kernel_rfl) (by kernel_rfl) (by rfl) ?_ ?_
    rotate_left
    · intro W hW; first | (go_simp; done) | (go_simp; with_reducible rfl)
    try simp only [Act.put, List.setIfInBounds_toArray, List.set_cons_zero, List.set_cons_succ]
    refine wpG_do (i := 2) (o := { dst := some 65, op := Op.call { callee := Callee.value (Operand.func 5), args := #[Operand.tmp 63, Operand.tmp 64], argTypes := #[24, 24] }, type := 26, pos := "law.go:141", after := #[{ on := 0, ground := Ground.data }, { on := 1, ground := Ground.data }], guard := none }) (by kernel_rfl) rfl (by rfl) fun K hK => ?_
    go_simp
    refine (scalar_any _ _ k _ _ KK.out KU.out HK.out HU2.out.1).mono ?_
    rintro e w5 ⟨vx, rfl, hN⟩
    refine hK.out _ _ hN.2 ?_
    clear hK K
    try simp only [Act.put, List.setIfInBounds_toArray, List.set_cons_zero, List.set_cons_succ]
    refine wpG_take (i := 3) (oi := { dst := some 62, op := Op.move (Operand.tmp 65), type := 26, pos := "law.go:141", after := #[{ on := 2, ground := Ground.data }], guard := none }) (v := ?_) rfl (by kernel_rfl) (by kernel_rfl) (by kernel_rfl) (by rfl) ?_ ?_
    rotate_left
    · intro W hW; first | (go_simp; done) | (go_simp; with_reducible rfl)
    try simp only [Act.put, List.setIfInBounds_toArray, List.set_cons_zero, List.set_cons_succ]
    refine wpG_take (i := 4) (oi := { dst := some 66, op := Op.extract (Operand.tmp 62) 0, type := 24, pos := "law.go:141", after := #[{ on := 3, ground := Ground.data }], guard := none }) (v := ?_) rfl (by kernel_rfl) (by kernel_rfl) (by kernel_rfl) (by rfl) ?_ ?_
    rotate_left
    · intro W hW; first | (go_simp; done) | (go_simp; with_reducible rfl)
    try simp only [Act.put, List.setIfInBounds_toArray, List.set_cons_zero, List.set_cons_succ]
    refine wpG_take (i := 5) (oi := { dst := some 67, op := Op.extract (Operand.tmp 62) 1, type := 25, pos := "law.go:141", after := #[{ on := 3, ground := Ground.data }, { on := 6, ground := Ground.gcOnly Departure.lateStores }], guard := none }) (v := ?_) rfl (by kernel_rfl) (by kernel_rfl) (by kernel_rfl) (by rfl) ?_ ?_
    rotate_left
    · intro W hW; first | (go_simp; done) | (go_simp; with_reducible rfl)
    try simp only [Act.put, List.setIfInBounds_toArray, List.set_cons_zero, List.set_cons_succ]
    refine wpG_take (i := 6) (oi := { dst := some 12, op := Op.assign (Operand.tmp 66), type := 24, pos := "law.go:141", after := #[{ on := 4, ground := Ground.data }, { on := 2, ground := Ground.chain }, { on := 0, ground := Ground.phase }, { on := 1, ground := Ground.phase }, { on := 2, ground := Ground.phase }, { on := 3, ground := Ground.phase }, { on := 4, ground := Ground.phase }, { on := 5, ground := Ground.textOnly Departure.lateStores }], guard := none }) (v := ?_) rfl (by kernel_rfl) (by kernel_rfl) (by kernel_rfl) (by rfl) ?_ ?_
    rotate_left
    · intro W hW; first | (go_simp; done) | (go_simp; with_reducible rfl)
    try simp only [Act.put, List.setIfInBounds_toArray, List.set_cons_zero, List.set_cons_succ]
    refine wpG_take (i := 7) (oi := { dst := some 13, op := Op.assign (Operand.tmp 67), type := 25, pos := "law.go:141", after := #[{ on := 5, ground := Ground.data }, { on := 6, ground := Ground.chain }, { on := 0, ground := Ground.phase }, { on := 1, ground := Ground.phase }, { on := 2, ground := Ground.phase }, { on := 3, ground := Ground.phase }, { on := 4, ground := Ground.phase }, { on := 5, ground := Ground.phase }, { on := 6, ground := Ground.phase }], guard := none }) (v := ?_) rfl (by kernel_rfl) (by kernel_rfl) (by kernel_rfl) (by rfl) ?_ ?_
    rotate_left
    · intro W hW; first | (go_simp; done) | (go_simp; with_reducible rfl)
    try simp only [Act.put, List.setIfInBounds_toArray, List.set_cons_zero, List.set_cons_succ]
    refine wpG_done (by kernel_rfl) ?_
    have kk := (KK.out.kept hN.2).drew
    have ku := (KU.out.kept hN.2).drew
    have hbw := (stepB HB.out hN.2).drew
    have hx := hN.rd.drew
    rw [HU2.out.nought HK.out, enL_zero] at hx
    clear hN KK KU HB
    go_wp2_with fail
    refine wpG_begin (by kernel_rfl) ?_
    refine wpG_take (i := 0) (oi := { dst := some 69, op := Op.slice 22 (Operand.tmp 3) none none none, type := 24, pos := "law.go:142", after := #[], guard := none }) (v := ?_) rfl (by kernel_rfl) (by kernel_rfl) (by kernel_rfl) (by rfl) ?_ ?_
    rotate_left
    · intro W hW; first | (go_simp; done) | (go_simp; with_reducible rfl)
    try simp only [Act.put, List.setIfInBounds_toArray, List.set_cons_zero, List.set_cons_succ]
    refine wpG_take (i := 1) (oi := { dst := some 70, op := Op.slice 22 (Operand.tmp 8) none none none, type := 24, pos := "law.go:142", after := #[], guard := none }) (v := ?_) rfl (by kernel_rfl) (by kernel_rfl) (by kernel_rfl) (by rfl) ?_ ?_
    rotate_left
    · intro W hW; first | (go_simp; done) | (go_simp; with_reducible rfl)
    try simp only [Act.put, List.setIfInBounds_toArray, List.set_cons_zero, List.set_cons_succ]
    refine wpG_do (i := 2) (o := { dst := some 71, op := Op.call { callee := Callee.value (Operand.func 6), args := #[Operand.tmp 69, Operand.tmp 70], argTypes := #[24, 24] }, type := 26, pos := "law.go:142", after := #[{ on := 0, ground := Ground.data }, { on := 1, ground := Ground.data }], guard := none }) (by kernel_rfl) rfl (by rfl) fun K hK => ?_
    go_simp
    refine (shared_zero _ _ k _ _ kk ku HK.out HU2.out.1 (noughts (HU2.out.nought HK.out))).mono ?_
    rintro e w6 ⟨rfl, b6⟩
    refine hK.out _ _ b6 ?_
    clear hK K
    try simp only [Act.put, List.setIfInBounds_toArray, List.set_cons_zero, List.set_cons_succ]
    refine wpG_take (i := 3) (oi := { dst := some 68, op := Op.move (Operand.tmp 71), type := 26, pos := "law.go:142", after := #[{ on := 2, ground := Ground.data }], guard := none }) (v := ?_) rfl (by kernel_rfl) (by kernel_rfl) (by kernel_rfl) (by rfl) ?_ ?_
    rotate_left
    · intro W hW; first | (go_simp; done) | (go_simp; with_reducible rfl)
    try simp only [Act.put, List.setIfInBounds_toArray, List.set_cons_zero, List.set_cons_succ]
    refine wpG_take (i := 4) (oi := { dst := some 72, op := Op.extract (Operand.tmp 68) 0, type := 24, pos := "law.go:142", after := #[{ on := 3, ground := Ground.data }], guard := none }) (v := ?_) rfl (by kernel_rfl) (by kernel_rfl) (by kernel_rfl) (by rfl) ?_ ?_
    rotate_left
    · intro W hW; first | (go_simp; done) | (go_simp; with_reducible rfl)
    try simp only [Act.put, List.setIfInBounds_toArray, List.set_cons_zero, List.set_cons_succ]
    refine wpG_take (i := 5) (oi := { dst := some 73, op := Op.extract (Operand.tmp 68) 1, type := 25, pos := "law.go:142", after := #[{ on := 3, ground := Ground.data }, { on := 6, ground := Ground.gcOnly Departure.lateStores }], guard := none }) (v := ?_) rfl (by kernel_rfl) (by kernel_rfl) (by kernel_rfl) (by rfl) ?_ ?_
    rotate_left
    · intro W hW; first | (go_simp; done) | (go_simp; with_reducible rfl)
    try simp only [Act.put, List.setIfInBounds_toArray, List.set_cons_zero, List.set_cons_succ]
    refine wpG_take (i := 6) (oi := { dst := some 14, op := Op.assign (Operand.tmp 72), type := 24, pos := "law.go:142", after := #[{ on := 4, ground := Ground.data }, { on := 2, ground := Ground.chain }, { on := 0, ground := Ground.phase }, { on := 1, ground := Ground.phase }, { on := 2, ground := Ground.phase }, { on := 3, ground := Ground.phase }, { on := 4, ground := Ground.phase }, { on := 5, ground := Ground.textOnly Departure.lateStores }], guard := none }) (v := ?_) rfl (by kernel_rfl) (by kernel_rfl) (by kernel_rfl) (by rfl) ?_ ?_
    rotate_left
    · intro W hW; first | (go_simp; done) | (go_simp; with_reducible rfl)
    try simp only [Act.put, List.setIfInBounds_toArray, List.set_cons_zero, List.set_cons_succ]
    refine wpG_take (i := 7) (oi := { dst := some 15, op := Op.assign (Operand.tmp 73), type := 25, pos := "law.go:142", after := #[{ on := 5, ground := Ground.data }, { on := 6, ground := Ground.chain }, { on := 0, ground := Ground.phase }, { on := 1, ground := Ground.phase }, { on := 2, ground := Ground.phase }, { on := 3, ground := Ground.phase }, { on := 4, ground := Ground.phase }, { on := 5, ground := Ground.phase }, { on := 6, ground := Ground.phase }], guard := none }) (v := ?_) rfl (by kernel_rfl) (by kernel_rfl) (by kernel_rfl) (by rfl) ?_ ?_
    rotate_left
    · intro W hW; first | (go_simp; done) | (go_simp; with_reducible rfl)
    try simp only [Act.put, List.setIfInBounds_toArray, List.set_cons_zero, List.set_cons_succ]
    refine wpG_done (by kernel_rfl) ?_
    replace hx := hx.kept b6
    replace hbw := stepB hbw b6
    clear kk ku b6
    obtain ⟨bx, ox, cx, rfl, hcx, -, -⟩ := hx.cellAt (i := 0) (by rw [List.length_replicate]; decide)
    have hx2 := hx
    rw [List.length_replicate] at hx hcx
    rw [List.length_replicate]
    go_wp2_with fail
    go_loop [16, 17] (fun nv iv => ∃ i : Nat, i ≤ 32 ∧ nv = .int .i64 0 ∧ iv = .int .i64 (i : Int)) (fun _ iv => 32 - (intOf iv).toNat)
    case atStart => exact ⟨0, by omega, rfl, rfl⟩
    case round =>
      obtain ⟨i, hi, rfl, rfl⟩ := hrel
      by_cases hlt : i < 32
      · have hd : decide ((i : Int) < 32) = true := decide_eq_true (by omega)
        have hiI : (i : Int) < 32 := by omega
        obtain ⟨b', off', cc, ev, -, hcell, -⟩ := hx2.cellAt (i := i) (by rw [List.length_replicate]; exact hlt)
        simp only [Value.slice.injEq, Option.some.injEq, Addr.mk.injEq, and_true, true_and] at ev
        obtain ⟨⟨rfl, rfl⟩, rfl⟩ := ev
        rw [repl_get] at hcell
        clear hx hx2
        go_wp2
        go_round
        case rel => exact ⟨i + 1, by omega, rfl, by go_num⟩
        case measure => simp [intOf] <;> omega
      · have hd : decide ((i : Int) < 32) = false := decide_eq_false (by omega)
        have hiI : (32 : Int) ≤ (i : Int) := by omega
        clear hx hx2
        go_wp2
        go_ret
        exact ⟨rfl, hbw⟩
end Go.Proofs.Ythokfcmnijpkhab
