/- What the document's own rounds lane by lane answer: contracts of the reference of layer 2, seventh part. -/
import Derived.Test.YtlcnepnappfjeaaDoorRef02f
import Derived.Test.YtlcnepnappfjeaaDoorKec
import Derived.Test.YtlcnepnappfjeaaDoorBase
namespace Go.Proofs.YtlcnepnappfjeaaDoor
open Go.ChangeShapes Go.WideShapes Go.ChangeAt Go.RowKit
set_option linter.unusedSimpArgs false
set_option linter.unusedVariables false

/-- What the rounds know of memory: the state's row, the constants' row. -/
structure FastI (w : World) (gs caps gk capk : Nat) (l : List Int) (wr : World) : Prop where
  s : RowAt .u64 65 gs caps l wr
  k : RowAt .u64 65 gk capk (kst.map fun x => ((x : Nat) : Int)) wr
  b : Below w.heap.size w wr
theorem FastI.set {w : World} {gs caps gk capk : Nat} {l : List Int} {wr : World} (h : FastI w gs caps gk capk l wr) (hg : w.heap.size ≤ gs) (hne : gs < gk) (j : Nat) (x : Int) :
    FastI w gs caps gk capk (l.set j x) (wr.setCell ⟨gs, j, none⟩ (.int .u64 x)) := ⟨h.s.set j x, h.k.other (by show gs ≠ gk; omega) _, h.b.setCell hg _⟩
theorem FastI.other {w : World} {gs caps gk capk : Nat} {l : List Int} {wr : World} (h : FastI w gs caps gk capk l wr) {p : Addr} (h1 : p.block ≠ gs) (h2 : p.block ≠ gk) (h3 : w.heap.size ≤ p.block) (u : Value) :
    FastI w gs caps gk capk l (wr.setCell p u) := ⟨h.s.other h1 _, h.k.other h2 _, h.b.setCell h3 _⟩
theorem FastI.kept {w : World} {gs caps gk capk : Nat} {l : List Int} {wr w' : World} (h : FastI w gs caps gk capk l wr) (hb : Below wr.heap.size wr w') : FastI w gs caps gk capk l w' :=
  ⟨h.s.kept hb, h.k.kept hb, h.b.trans (hb.mono h.b.size)⟩
theorem FastI.drew {w : World} {gs caps gk capk : Nat} {l : List Int} {wr : World} (h : FastI w gs caps gk capk l wr) : FastI w gs caps gk capk l wr.drew := h.kept (Below.refl _ _).drew

theorem kst_getI (J : Nat) (hJ : J < 24) : (kst.map fun x => ((x : Nat) : Int)).getD J 0 = ((kst.getD J 0 : Nat) : Int) := by
  have h : J < kst.length := by simp [kst]; omega
  simp [h]
theorem cellW {w W : World} {p : Addr} {v : Value} (h : w.cell? p = some v) (hb : Below w.drew.heap.size w.drew W) : W.cell? p = some v := by
  have h1 : w.drew.cell? p = some v := h
  rw [hb.cell (World.block_lt_of_cell? _ _ h1)]
  exact h1

set_option maxRecDepth 100000 in
set_option maxHeartbeats 8000000 in
theorem fast_any (va : Value) (f : Nat → Nat) (hf : ∀ i, f i < 18446744073709551616) (w : World) (hr : RdI .u64 w va (stL f)) :
    Calls Tryd.prog 30 #[va] w fun e w' => ∃ v, e = .returned v ∧ NewI .u64 65 w v (stL (rdsF f 24)) w' := by
  obtain ⟨ti, hti, hz0, hz1, hz2⟩ := info_parts infoU64
  have Hr : Hid (RdI .u64 w va (stL f)) := hr
  have Hf : Hid (∀ i, f i < 18446744073709551616) := hf
  clear hr hf
  go_enter Tryd.func30, Tryd.ntmps30
  go_wp2_with fail
  refine (lanes_any _).mono ?_
  rintro e w1 ⟨v3, rfl, hN1⟩
  go_wp2_with (refine wpList_copy_newI (w := w) rfl _ _ 52 rfl 65 Tryd.underlying52 sizeU64 v3 _ rfl hN1 va _ rfl (Hr.out.kept hN1.2) (by rw [stL_length, stL_length]) (stL_ne _) ?_)
  intro w2 hN2
  clear hN1
  obtain ⟨gs, caps, e3, hgs, hrs⟩ := hN2.row (stL_ne f)
  have hb2 := hN2.2
  clear hN2
  rw [stL_length] at e3
  subst e3
  go_wp2_with fail
  refine (constants_any _).mono ?_
  rintro e w3 ⟨v4, rfl, hN4⟩
  obtain ⟨gk, capk, e4, hgk, hrk⟩ := hN4.row (by simp [kst])
  have hrs3 := hrs.kept hN4.2
  have hlt : gs < gk := Nat.lt_of_lt_of_le hrs.lt hgk
  have hI : FastI w gs caps gk capk (stL f) w3 := ⟨hrs3, hrk, stepB hb2 hN4.2⟩
  rw [show (kst.map fun x => ((x : Nat) : Int)).length = 24 from by simp [kst]] at e4
  subst e4
  clear hrs3 hrk hrs hb2 hN4 hgk
  go_wp2_with fail
  go_loopw [5] (fun i wr => ∃ J : Nat, J ≤ 24 ∧ i = .int .i64 J ∧ FastI w gs caps gk capk (stL (rdsL f J)) wr) (fun i _ => 24 - (intOf i).toNat)
  case atStart => exact ⟨0, by omega, rfl, hI⟩
  case round =>
    obtain ⟨J, hJ, rfl, hI2⟩ := hrel
    clear hI
    by_cases hJ24 : J < 24
    · have hd1 : decide ((J : Int) < 24) = true := decide_eq_true (by omega)
      have HF : Hid (∀ i, rdsL f J i < 18446744073709551616) := rdsL_lt f Hf.out J hJ
      have HN : Hid (rdsL f (J + 1) = rdL (rdsL f J) J) := rfl
      generalize rdsL f J = F at hI2 HF HN
      go_wp2_with (at_make; go_must (refine wpList_make_full _ rfl _ _ 52 rfl wr.heap.size 65 ti _ 1 Tryd.underlying52 hti hz0 hz1 _ _ _ _ 5 rfl rfl rfl rfl (by rw [hz2]; omega) (by unfold maxLen; omega) (Nat.le_refl _) ?_))
      intro w5 hown hgr
      have hNc := NewI.made hown hgr
      obtain ⟨gc, capc, ec, hgc, hrc⟩ := hNc.row (by simp)
      simp only [Value.slice.injEq, Option.some.injEq, Addr.mk.injEq, and_true, true_and, List.length_replicate] at ec
      obtain ⟨rfl, rfl⟩ := ec
      have hI3 := hI2.kept hNc.2
      have hgsc : gs < wr.heap.size := hI2.s.lt
      have hgkc : gk < wr.heap.size := hI2.k.lt
      have hwc : w.heap.size ≤ wr.heap.size := hI2.b.size
      rw [cP_zero F] at hrc
      generalize wr.heap.size = gc at hrc hgsc hgkc hwc hgc
      clear hown hgr hNc hI2
      go_wp2_with fail
      go_loopw [7] (fun i wr => ∃ X : Nat, X ≤ 5 ∧ i = .int .i64 X ∧ FastI w gs caps gk capk (stL F) wr ∧ RowAt .u64 65 gc 5 (cP F X) wr) (fun i _ => 5 - (intOf i).toNat)
      case atStart => exact ⟨0, by omega, rfl, hI3, hrc⟩
      case round =>
        obtain ⟨X, hX, rfl, hI4, hrc4⟩ := hrel
        clear hI3 hrc
        by_cases hX5 : X < 5
        · have hcap := hI4.s.cap
          rw [stL_length] at hcap
          have c0 := hI4.s.cell (j := X) (by rw [stL_length]; omega)
          have c1 := hI4.s.cell (j := X + 5) (by rw [stL_length]; omega)
          have c2 := hI4.s.cell (j := X + 10) (by rw [stL_length]; omega)
          have c3 := hI4.s.cell (j := X + 15) (by rw [stL_length]; omega)
          have c4 := hI4.s.cell (j := X + 20) (by rw [stL_length]; omega)
          rw [stL_get F _ (by omega)] at c0 c1 c2 c3 c4
          have cc := hrc4.cell (j := X) (by rw [cP_length]; omega)
          have fc := hrc4.free X
          have HC : Hid _ := colI F HF.out X
          have HS : Hid (∀ x : Int, x = ((colN F X : Nat) : Int) → RowAt .u64 65 gc 5 (cP F (X + 1)) (wr.setCell ⟨gc, X, none⟩ (.int .u64 x))) := by
            intro x hx
            rw [← cP_set, ← hx]
            exact hrc4.set X x
          generalize F X = q0 at c0 HC
          generalize F (X + 5) = q1 at c1 HC
          generalize F (X + 10) = q2 at c2 HC
          generalize F (X + 15) = q3 at c3 HC
          generalize F (X + 20) = q4 at c4 HC
          generalize (cP F X).getD X 0 = q5 at cc
          have hXi : (X : Int) < 5 := by omega
          have i1 : (X : Int) + 5 < 25 := by omega
          have i2 : (X : Int) + 10 < 25 := by omega
          have i3 : (X : Int) + 15 < 25 := by omega
          have i4 : (X : Int) + 20 < 25 := by omega
          have HI4 : Hid _ := hI4
          have x25 : (X : Int) < 25 := by omega
          have w1 : IntKind.i64.wrap ((X : Int) + 5) = (X : Int) + 5 := IntWalk.i64_in _ (by omega)
          have w2 : IntKind.i64.wrap ((X : Int) + 10) = (X : Int) + 10 := IntWalk.i64_in _ (by omega)
          have w3 : IntKind.i64.wrap ((X : Int) + 15) = (X : Int) + 15 := IntWalk.i64_in _ (by omega)
          have w4 : IntKind.i64.wrap ((X : Int) + 20) = (X : Int) + 20 := IntWalk.i64_in _ (by omega)
          have p1 : 0 ≤ (X : Int) + 5 := by omega
          have p2 : 0 ≤ (X : Int) + 10 := by omega
          have p3 : 0 ≤ (X : Int) + 15 := by omega
          have p4 : 0 ≤ (X : Int) + 20 := by omega
          have n1 : ((X : Int) + 5).toNat = X + 5 := by omega
          have n2 : ((X : Int) + 10).toNat = X + 10 := by omega
          have n3 : ((X : Int) + 15).toNat = X + 15 := by omega
          have n4 : ((X : Int) + 20).toNat = X + 20 := by omega
          clear hI4 hrc4
          go_wp2_with fail
          refine wpE_begin 31 (by kernel_rfl) ?_
          refine wpE_take (i := 0) (oi := { dst := some 31, op := Op.move (Operand.tmp 6), type := 52, pos := "ref.go:164", after := #[], guard := none }) (v := ?_) rfl (by decide) (by kernel_rfl) (by kernel_rfl) (by kernel_rfl) (by kernel_rfl) (by rfl) ?_ ?_
          rotate_left
          · intro W hW; first | (go_simp; done) | (go_simp; with_reducible rfl)
          try simp only [Act.put, List.setIfInBounds_toArray, List.set_cons_zero, List.set_cons_succ]
          refine wpE_take (i := 1) (oi := { dst := some 32, op := Op.move (Operand.tmp 7), type := 3, pos := "ref.go:164", after := #[], guard := none }) (v := ?_) rfl (by decide) (by kernel_rfl) (by kernel_rfl) (by kernel_rfl) (by kernel_rfl) (by rfl) ?_ ?_
          rotate_left
          · intro W hW; first | (go_simp; done) | (go_simp; with_reducible rfl)
          try simp only [Act.put, List.setIfInBounds_toArray, List.set_cons_zero, List.set_cons_succ]
          refine wpE_take (i := 2) (oi := { dst := some 33, op := Op.move (Operand.tmp 3), type := 52, pos := "ref.go:164", after := #[], guard := none }) (v := ?_) rfl (by decide) (by kernel_rfl) (by kernel_rfl) (by kernel_rfl) (by kernel_rfl) (by rfl) ?_ ?_
          rotate_left
          · intro W hW; first | (go_simp; done) | (go_simp; with_reducible rfl)
          try simp only [Act.put, List.setIfInBounds_toArray, List.set_cons_zero, List.set_cons_succ]
          refine wpE_take (i := 3) (oi := { dst := some 34, op := Op.move (Operand.tmp 7), type := 3, pos := "ref.go:164", after := #[], guard := none }) (v := ?_) rfl (by decide) (by kernel_rfl) (by kernel_rfl) (by kernel_rfl) (by kernel_rfl) (by rfl) ?_ ?_
          rotate_left
          · intro W hW; first | (go_simp; done) | (go_simp; with_reducible rfl)
          try simp only [Act.put, List.setIfInBounds_toArray, List.set_cons_zero, List.set_cons_succ]
          refine wpE_take (i := 4) (oi := { dst := some 35, op := Op.indexAddr 52 (Operand.tmp 33) (Operand.tmp 34), type := 0, pos := "ref.go:164", after := #[{ on := 2, ground := Ground.data }, { on := 3, ground := Ground.data }], guard := none }) (v := ?_) rfl (by decide) (by kernel_rfl) (by kernel_rfl) (by kernel_rfl) (by kernel_rfl) (by rfl) ?_ ?_
          rotate_left
          · intro W hW; first | (go_simp; done) | (go_simp; with_reducible rfl)
          try simp only [Act.put, List.setIfInBounds_toArray, List.set_cons_zero, List.set_cons_succ]
          refine wpE_take (i := 5) (oi := { dst := some 36, op := Op.load 65 (Operand.tmp 35), type := 65, pos := "ref.go:164", after := #[{ on := 4, ground := Ground.data }], guard := none }) (v := ?_) rfl (by decide) (by kernel_rfl) (by kernel_rfl) (by kernel_rfl) (by kernel_rfl) (by rfl) ?_ ?_
          rotate_left
          · intro W hW; have hcW := cellW c0 hW; first | (go_simp; done) | (go_simp; with_reducible rfl)
          try simp only [Act.put, List.setIfInBounds_toArray, List.set_cons_zero, List.set_cons_succ]
          refine wpE_take (i := 6) (oi := { dst := some 37, op := Op.move (Operand.tmp 3), type := 52, pos := "ref.go:164", after := #[], guard := none }) (v := ?_) rfl (by decide) (by kernel_rfl) (by kernel_rfl) (by kernel_rfl) (by kernel_rfl) (by rfl) ?_ ?_
          rotate_left
          · intro W hW; first | (go_simp; done) | (go_simp; with_reducible rfl)
          try simp only [Act.put, List.setIfInBounds_toArray, List.set_cons_zero, List.set_cons_succ]
          refine wpE_take (i := 7) (oi := { dst := some 38, op := Op.move (Operand.tmp 7), type := 3, pos := "ref.go:164", after := #[], guard := none }) (v := ?_) rfl (by decide) (by kernel_rfl) (by kernel_rfl) (by kernel_rfl) (by kernel_rfl) (by rfl) ?_ ?_
          rotate_left
          · intro W hW; first | (go_simp; done) | (go_simp; with_reducible rfl)
          try simp only [Act.put, List.setIfInBounds_toArray, List.set_cons_zero, List.set_cons_succ]
          refine wpE_take (i := 8) (oi := { dst := some 39, op := Op.binOp BinOp.add 3 (Operand.tmp 38) (Operand.const (Value.int IntKind.i64 5)) 3, type := 3, pos := "ref.go:164", after := #[{ on := 7, ground := Ground.data }], guard := none }) (v := ?_) rfl (by decide) (by kernel_rfl) (by kernel_rfl) (by kernel_rfl) (by kernel_rfl) (by rfl) ?_ ?_
          rotate_left
          · intro W hW; first | (go_simp; done) | (go_simp; with_reducible rfl)
          try simp only [Act.put, List.setIfInBounds_toArray, List.set_cons_zero, List.set_cons_succ]
          refine wpE_take (i := 9) (oi := { dst := some 40, op := Op.indexAddr 52 (Operand.tmp 37) (Operand.tmp 39), type := 0, pos := "ref.go:164", after := #[{ on := 6, ground := Ground.data }, { on := 8, ground := Ground.data }], guard := none }) (v := ?_) rfl (by decide) (by kernel_rfl) (by kernel_rfl) (by kernel_rfl) (by kernel_rfl) (by rfl) ?_ ?_
          rotate_left
          · intro W hW; first | (go_simp; done) | (go_simp; with_reducible rfl)
          try simp only [Act.put, List.setIfInBounds_toArray, List.set_cons_zero, List.set_cons_succ]
          refine wpE_take (i := 10) (oi := { dst := some 41, op := Op.load 65 (Operand.tmp 40), type := 65, pos := "ref.go:164", after := #[{ on := 9, ground := Ground.data }], guard := none }) (v := ?_) rfl (by decide) (by kernel_rfl) (by kernel_rfl) (by kernel_rfl) (by kernel_rfl) (by rfl) ?_ ?_
          rotate_left
          · intro W hW; have hcW := cellW c1 hW; first | (go_simp; done) | (go_simp; with_reducible rfl)
          try simp only [Act.put, List.setIfInBounds_toArray, List.set_cons_zero, List.set_cons_succ]
          refine wpE_take (i := 11) (oi := { dst := some 42, op := Op.binOp BinOp.xor 65 (Operand.tmp 36) (Operand.tmp 41) 65, type := 65, pos := "ref.go:164", after := #[{ on := 5, ground := Ground.data }, { on := 10, ground := Ground.data }], guard := none }) (v := ?_) rfl (by decide) (by kernel_rfl) (by kernel_rfl) (by kernel_rfl) (by kernel_rfl) (by rfl) ?_ ?_
          rotate_left
          · intro W hW; first | (go_simp; done) | (go_simp; with_reducible rfl)
          try simp only [Act.put, List.setIfInBounds_toArray, List.set_cons_zero, List.set_cons_succ]
          refine wpE_take (i := 12) (oi := { dst := some 43, op := Op.move (Operand.tmp 3), type := 52, pos := "ref.go:164", after := #[], guard := none }) (v := ?_) rfl (by decide) (by kernel_rfl) (by kernel_rfl) (by kernel_rfl) (by kernel_rfl) (by rfl) ?_ ?_
          rotate_left
          · intro W hW; first | (go_simp; done) | (go_simp; with_reducible rfl)
          try simp only [Act.put, List.setIfInBounds_toArray, List.set_cons_zero, List.set_cons_succ]
          refine wpE_take (i := 13) (oi := { dst := some 44, op := Op.move (Operand.tmp 7), type := 3, pos := "ref.go:164", after := #[], guard := none }) (v := ?_) rfl (by decide) (by kernel_rfl) (by kernel_rfl) (by kernel_rfl) (by kernel_rfl) (by rfl) ?_ ?_
          rotate_left
          · intro W hW; first | (go_simp; done) | (go_simp; with_reducible rfl)
          try simp only [Act.put, List.setIfInBounds_toArray, List.set_cons_zero, List.set_cons_succ]
          refine wpE_take (i := 14) (oi := { dst := some 45, op := Op.binOp BinOp.add 3 (Operand.tmp 44) (Operand.const (Value.int IntKind.i64 10)) 3, type := 3, pos := "ref.go:164", after := #[{ on := 13, ground := Ground.data }], guard := none }) (v := ?_) rfl (by decide) (by kernel_rfl) (by kernel_rfl) (by kernel_rfl) (by kernel_rfl) (by rfl) ?_ ?_
          rotate_left
          · intro W hW; first | (go_simp; done) | (go_simp; with_reducible rfl)
          try simp only [Act.put, List.setIfInBounds_toArray, List.set_cons_zero, List.set_cons_succ]
          refine wpE_take (i := 15) (oi := { dst := some 46, op := Op.indexAddr 52 (Operand.tmp 43) (Operand.tmp 45), type := 0, pos := "ref.go:164", after := #[{ on := 12, ground := Ground.data }, { on := 14, ground := Ground.data }], guard := none }) (v := ?_) rfl (by decide) (by kernel_rfl) (by kernel_rfl) (by kernel_rfl) (by kernel_rfl) (by rfl) ?_ ?_
          rotate_left
          · intro W hW; first | (go_simp; done) | (go_simp; with_reducible rfl)
          try simp only [Act.put, List.setIfInBounds_toArray, List.set_cons_zero, List.set_cons_succ]
          refine wpE_take (i := 16) (oi := { dst := some 47, op := Op.load 65 (Operand.tmp 46), type := 65, pos := "ref.go:164", after := #[{ on := 15, ground := Ground.data }], guard := none }) (v := ?_) rfl (by decide) (by kernel_rfl) (by kernel_rfl) (by kernel_rfl) (by kernel_rfl) (by rfl) ?_ ?_
          rotate_left
          · intro W hW; have hcW := cellW c2 hW; first | (go_simp; done) | (go_simp; with_reducible rfl)
          try simp only [Act.put, List.setIfInBounds_toArray, List.set_cons_zero, List.set_cons_succ]
          refine wpE_take (i := 17) (oi := { dst := some 48, op := Op.binOp BinOp.xor 65 (Operand.tmp 42) (Operand.tmp 47) 65, type := 65, pos := "ref.go:164", after := #[{ on := 11, ground := Ground.data }, { on := 16, ground := Ground.data }], guard := none }) (v := ?_) rfl (by decide) (by kernel_rfl) (by kernel_rfl) (by kernel_rfl) (by kernel_rfl) (by rfl) ?_ ?_
          rotate_left
          · intro W hW; first | (go_simp; done) | (go_simp; with_reducible rfl)
          try simp only [Act.put, List.setIfInBounds_toArray, List.set_cons_zero, List.set_cons_succ]
          refine wpE_take (i := 18) (oi := { dst := some 49, op := Op.move (Operand.tmp 3), type := 52, pos := "ref.go:164", after := #[], guard := none }) (v := ?_) rfl (by decide) (by kernel_rfl) (by kernel_rfl) (by kernel_rfl) (by kernel_rfl) (by rfl) ?_ ?_
          rotate_left
          · intro W hW; first | (go_simp; done) | (go_simp; with_reducible rfl)
          try simp only [Act.put, List.setIfInBounds_toArray, List.set_cons_zero, List.set_cons_succ]
          refine wpE_take (i := 19) (oi := { dst := some 50, op := Op.move (Operand.tmp 7), type := 3, pos := "ref.go:164", after := #[], guard := none }) (v := ?_) rfl (by decide) (by kernel_rfl) (by kernel_rfl) (by kernel_rfl) (by kernel_rfl) (by rfl) ?_ ?_
          rotate_left
          · intro W hW; first | (go_simp; done) | (go_simp; with_reducible rfl)
          try simp only [Act.put, List.setIfInBounds_toArray, List.set_cons_zero, List.set_cons_succ]
          refine wpE_take (i := 20) (oi := { dst := some 51, op := Op.binOp BinOp.add 3 (Operand.tmp 50) (Operand.const (Value.int IntKind.i64 15)) 3, type := 3, pos := "ref.go:164", after := #[{ on := 19, ground := Ground.data }], guard := none }) (v := ?_) rfl (by decide) (by kernel_rfl) (by kernel_rfl) (by kernel_rfl) (by kernel_rfl) (by rfl) ?_ ?_
          rotate_left
          · intro W hW; first | (go_simp; done) | (go_simp; with_reducible rfl)
          try simp only [Act.put, List.setIfInBounds_toArray, List.set_cons_zero, List.set_cons_succ]
          refine wpE_take (i := 21) (oi := { dst := some 52, op := Op.indexAddr 52 (Operand.tmp 49) (Operand.tmp 51), type := 0, pos := "ref.go:164", after := #[{ on := 18, ground := Ground.data }, { on := 20, ground := Ground.data }], guard := none }) (v := ?_) rfl (by decide) (by kernel_rfl) (by kernel_rfl) (by kernel_rfl) (by kernel_rfl) (by rfl) ?_ ?_
          rotate_left
          · intro W hW; first | (go_simp; done) | (go_simp; with_reducible rfl)
          try simp only [Act.put, List.setIfInBounds_toArray, List.set_cons_zero, List.set_cons_succ]
          refine wpE_take (i := 22) (oi := { dst := some 53, op := Op.load 65 (Operand.tmp 52), type := 65, pos := "ref.go:164", after := #[{ on := 21, ground := Ground.data }], guard := none }) (v := ?_) rfl (by decide) (by kernel_rfl) (by kernel_rfl) (by kernel_rfl) (by kernel_rfl) (by rfl) ?_ ?_
          rotate_left
          · intro W hW; have hcW := cellW c3 hW; first | (go_simp; done) | (go_simp; with_reducible rfl)
          try simp only [Act.put, List.setIfInBounds_toArray, List.set_cons_zero, List.set_cons_succ]
          refine wpE_take (i := 23) (oi := { dst := some 54, op := Op.binOp BinOp.xor 65 (Operand.tmp 48) (Operand.tmp 53) 65, type := 65, pos := "ref.go:164", after := #[{ on := 17, ground := Ground.data }, { on := 22, ground := Ground.data }], guard := none }) (v := ?_) rfl (by decide) (by kernel_rfl) (by kernel_rfl) (by kernel_rfl) (by kernel_rfl) (by rfl) ?_ ?_
          rotate_left
          · intro W hW; first | (go_simp; done) | (go_simp; with_reducible rfl)
          try simp only [Act.put, List.setIfInBounds_toArray, List.set_cons_zero, List.set_cons_succ]
          refine wpE_take (i := 24) (oi := { dst := some 55, op := Op.move (Operand.tmp 3), type := 52, pos := "ref.go:164", after := #[], guard := none }) (v := ?_) rfl (by decide) (by kernel_rfl) (by kernel_rfl) (by kernel_rfl) (by kernel_rfl) (by rfl) ?_ ?_
          rotate_left
          · intro W hW; first | (go_simp; done) | (go_simp; with_reducible rfl)
          try simp only [Act.put, List.setIfInBounds_toArray, List.set_cons_zero, List.set_cons_succ]
          refine wpE_take (i := 25) (oi := { dst := some 56, op := Op.move (Operand.tmp 7), type := 3, pos := "ref.go:164", after := #[], guard := none }) (v := ?_) rfl (by decide) (by kernel_rfl) (by kernel_rfl) (by kernel_rfl) (by kernel_rfl) (by rfl) ?_ ?_
          rotate_left
          · intro W hW; first | (go_simp; done) | (go_simp; with_reducible rfl)
          try simp only [Act.put, List.setIfInBounds_toArray, List.set_cons_zero, List.set_cons_succ]
          refine wpE_take (i := 26) (oi := { dst := some 57, op := Op.binOp BinOp.add 3 (Operand.tmp 56) (Operand.const (Value.int IntKind.i64 20)) 3, type := 3, pos := "ref.go:164", after := #[{ on := 25, ground := Ground.data }], guard := none }) (v := ?_) rfl (by decide) (by kernel_rfl) (by kernel_rfl) (by kernel_rfl) (by kernel_rfl) (by rfl) ?_ ?_
          rotate_left
          · intro W hW; first | (go_simp; done) | (go_simp; with_reducible rfl)
          try simp only [Act.put, List.setIfInBounds_toArray, List.set_cons_zero, List.set_cons_succ]
          refine wpE_take (i := 27) (oi := { dst := some 58, op := Op.indexAddr 52 (Operand.tmp 55) (Operand.tmp 57), type := 0, pos := "ref.go:164", after := #[{ on := 24, ground := Ground.data }, { on := 26, ground := Ground.data }], guard := none }) (v := ?_) rfl (by decide) (by kernel_rfl) (by kernel_rfl) (by kernel_rfl) (by kernel_rfl) (by rfl) ?_ ?_
          rotate_left
          · intro W hW; first | (go_simp; done) | (go_simp; with_reducible rfl)
          try simp only [Act.put, List.setIfInBounds_toArray, List.set_cons_zero, List.set_cons_succ]
          refine wpE_take (i := 28) (oi := { dst := some 59, op := Op.load 65 (Operand.tmp 58), type := 65, pos := "ref.go:164", after := #[{ on := 27, ground := Ground.data }], guard := none }) (v := ?_) rfl (by decide) (by kernel_rfl) (by kernel_rfl) (by kernel_rfl) (by kernel_rfl) (by rfl) ?_ ?_
          rotate_left
          · intro W hW; have hcW := cellW c4 hW; first | (go_simp; done) | (go_simp; with_reducible rfl)
          try simp only [Act.put, List.setIfInBounds_toArray, List.set_cons_zero, List.set_cons_succ]
          refine wpE_take (i := 29) (oi := { dst := some 60, op := Op.binOp BinOp.xor 65 (Operand.tmp 54) (Operand.tmp 59) 65, type := 65, pos := "ref.go:164", after := #[{ on := 23, ground := Ground.data }, { on := 28, ground := Ground.data }], guard := none }) (v := ?_) rfl (by decide) (by kernel_rfl) (by kernel_rfl) (by kernel_rfl) (by kernel_rfl) (by rfl) ?_ ?_
          rotate_left
          · intro W hW; first | (go_simp; done) | (go_simp; with_reducible rfl)
          try simp only [Act.put, List.setIfInBounds_toArray, List.set_cons_zero, List.set_cons_succ]
          refine wpE_take (i := 30) (oi := { dst := some 61, op := Op.indexAddr 52 (Operand.tmp 31) (Operand.tmp 32), type := 0, pos := "ref.go:164", after := #[{ on := 0, ground := Ground.data }, { on := 1, ground := Ground.data }, { on := 0, ground := Ground.phase }, { on := 1, ground := Ground.phase }, { on := 2, ground := Ground.phase }, { on := 3, ground := Ground.phase }, { on := 4, ground := Ground.phase }, { on := 5, ground := Ground.phase }, { on := 6, ground := Ground.phase }, { on := 7, ground := Ground.phase }, { on := 8, ground := Ground.phase }, { on := 9, ground := Ground.phase }, { on := 10, ground := Ground.phase }, { on := 11, ground := Ground.phase }, { on := 12, ground := Ground.phase }, { on := 13, ground := Ground.phase }, { on := 14, ground := Ground.phase }, { on := 15, ground := Ground.phase }, { on := 16, ground := Ground.phase }, { on := 17, ground := Ground.phase }, { on := 18, ground := Ground.phase }, { on := 19, ground := Ground.phase }, { on := 20, ground := Ground.phase }, { on := 21, ground := Ground.phase }, { on := 22, ground := Ground.phase }, { on := 23, ground := Ground.phase }, { on := 24, ground := Ground.phase }, { on := 25, ground := Ground.phase }, { on := 26, ground := Ground.phase }, { on := 27, ground := Ground.phase }, { on := 28, ground := Ground.phase }, { on := 29, ground := Ground.phase }], guard := none }) (v := ?_) rfl (by decide) (by kernel_rfl) (by kernel_rfl) (by kernel_rfl) (by kernel_rfl) (by rfl) ?_ ?_
          rotate_left
          · intro W hW; first | (go_simp; done) | (go_simp; with_reducible rfl)
          try simp only [Act.put, List.setIfInBounds_toArray, List.set_cons_zero, List.set_cons_succ]
          refine wpE_last (o := { dst := none, op := Op.store 65 (Operand.tmp 61) (Operand.tmp 60), type := 0, pos := "ref.go:164", after := #[{ on := 30, ground := Ground.data }, { on := 29, ground := Ground.data }, { on := 0, ground := Ground.phase }, { on := 1, ground := Ground.phase }, { on := 2, ground := Ground.phase }, { on := 3, ground := Ground.phase }, { on := 4, ground := Ground.phase }, { on := 5, ground := Ground.phase }, { on := 6, ground := Ground.phase }, { on := 7, ground := Ground.phase }, { on := 8, ground := Ground.phase }, { on := 9, ground := Ground.phase }, { on := 10, ground := Ground.phase }, { on := 11, ground := Ground.phase }, { on := 12, ground := Ground.phase }, { on := 13, ground := Ground.phase }, { on := 14, ground := Ground.phase }, { on := 15, ground := Ground.phase }, { on := 16, ground := Ground.phase }, { on := 17, ground := Ground.phase }, { on := 18, ground := Ground.phase }, { on := 19, ground := Ground.phase }, { on := 20, ground := Ground.phase }, { on := 21, ground := Ground.phase }, { on := 22, ground := Ground.phase }, { on := 23, ground := Ground.phase }, { on := 24, ground := Ground.phase }, { on := 25, ground := Ground.phase }, { on := 26, ground := Ground.phase }, { on := 27, ground := Ground.phase }, { on := 28, ground := Ground.phase }, { on := 29, ground := Ground.phase }], guard := none }) (by kernel_rfl) (by kernel_rfl) rfl (by rfl) fun K hK => ?_
          go_simp
          refine hK.out _ _ ?_
          clear hK K
          try simp only [Act.put, List.setIfInBounds_toArray, List.set_cons_zero, List.set_cons_succ]
          go_wp2
          go_roundw
          case rel => exact ⟨X + 1, by omega, by go_num, (FastI.other HI4.out (p := ⟨gc, X, none⟩) (by show gc ≠ gs; omega) (by show gc ≠ gk; omega) (by show w.heap.size ≤ gc; omega) _).drew, (HS.out _ HC.out).drew⟩
          case measure => simp [intOf]; omega
        · have hXe : X = 5 := by omega
          rw [hXe] at hrc4
          have hd2 : decide ((X : Int) < 5) = false := decide_eq_false (by omega)
          have hX6 : (5 : Int) ≤ X := by omega
          clear hXe
          rw [upQ_zero F (thL F)] at hI4
          go_wp2_with fail
          go_loopw [8] (fun i wr => ∃ K : Nat, K ≤ 25 ∧ i = .int .i64 K ∧ FastI w gs caps gk capk (stL (upQ F (thL F) K)) wr ∧ RowAt .u64 65 gc 5 (cP F 5) wr) (fun i _ => 25 - (intOf i).toNat)
          case atStart => exact ⟨0, by omega, rfl, hI4, hrc4⟩
          case round =>
            obtain ⟨K, hK, rfl, hI5, hrc5⟩ := hrel
            clear hI4 hrc4
            by_cases hK25 : K < 25
            · have hcap := hI5.s.cap
              rw [stL_length] at hcap
              obtain ⟨m4, hm4⟩ : ∃ m : Nat, m = (K % 5 + 4) % 5 := ⟨_, rfl⟩
              obtain ⟨m1, hm1⟩ : ∃ m : Nat, m = (K % 5 + 1) % 5 := ⟨_, rfl⟩
              have b4 : m4 < 5 := by omega
              have b1 : m1 < 5 := by omega
              obtain ⟨k5, hk5⟩ : ∃ m : Nat, m = K % 5 := ⟨_, rfl⟩
              have t0 : (K : Int).tmod 5 = (k5 : Int) := by rw [hk5]; exact Int.tmod_eq_emod_of_nonneg (by omega)
              have t4 : ((k5 : Int) + 4).tmod 5 = (m4 : Int) := by rw [Int.tmod_eq_emod_of_nonneg (by omega)]; omega
              have t1 : ((k5 : Int) + 1).tmod 5 = (m1 : Int) := by rw [Int.tmod_eq_emod_of_nonneg (by omega)]; omega
              have u0 : (K : Int) % 5 = (k5 : Int) := by omega
              have u4 : ((k5 : Int) + 4) % 5 = (m4 : Int) := by omega
              have u1 : ((k5 : Int) + 1) % 5 = (m1 : Int) := by omega
              have v4 : IntKind.i64.wrap ((k5 : Int) + 4) = (k5 : Int) + 4 := IntWalk.i64_in _ (by omega)
              have v1 : IntKind.i64.wrap ((k5 : Int) + 1) = (k5 : Int) + 1 := IntWalk.i64_in _ (by omega)
              have c0 := hI5.s.cell (j := K) (by rw [stL_length]; omega)
              have fs := hI5.s.free K
              rw [stL_get _ _ (by omega), upQ_get] at c0
              have c4 := hrc5.cell (j := m4) (by rw [cP_length]; omega)
              have c1 := hrc5.cell (j := m1) (by rw [cP_length]; omega)
              rw [cP_get _ _ b4] at c4
              rw [cP_get _ _ b1] at c1
              have HC : Hid _ := thI F HF.out K
              rw [← hm4, ← hm1] at HC
              have HS : Hid (∀ x : Int, x = ((thL F K : Nat) : Int) → FastI w gs caps gk capk (stL (upQ F (thL F) (K + 1))) (wr.setCell ⟨gs, K, none⟩ (.int .u64 x))) := by
                intro x hx
                rw [← upQ_set, ← hx]
                exact hI5.set hgs hlt K x
              have hcl := colN_lt F HF.out m1
              generalize F K = q0 at c0 HC
              generalize colN F m4 = q4 at c4 HC
              generalize colN F m1 = q1 at c1 HC hcl
              have HRC : Hid _ := hrc5
              have hKi : (K : Int) < 25 := by omega
              have b4' : (m4 : Int) < 5 := by omega
              have b1' : (m1 : Int) < 5 := by omega
              clear hI5 hrc5 hm4 hm1 hk5
              go_wp2_with fail
              refine wpE_begin 24 (by kernel_rfl) ?_
              refine wpE_take (i := 0) (oi := { dst := some 66, op := Op.move (Operand.tmp 3), type := 52, pos := "ref.go:167", after := #[], guard := none }) (v := ?_) rfl (by decide) (by kernel_rfl) (by kernel_rfl) (by kernel_rfl) (by kernel_rfl) (by rfl) ?_ ?_
              rotate_left
              · intro W hW; first | (go_simp; done) | (go_simp; with_reducible rfl)
              try simp only [Act.put, List.setIfInBounds_toArray, List.set_cons_zero, List.set_cons_succ]
              refine wpE_take (i := 1) (oi := { dst := some 67, op := Op.move (Operand.tmp 8), type := 3, pos := "ref.go:167", after := #[], guard := none }) (v := ?_) rfl (by decide) (by kernel_rfl) (by kernel_rfl) (by kernel_rfl) (by kernel_rfl) (by rfl) ?_ ?_
              rotate_left
              · intro W hW; first | (go_simp; done) | (go_simp; with_reducible rfl)
              try simp only [Act.put, List.setIfInBounds_toArray, List.set_cons_zero, List.set_cons_succ]
              refine wpE_take (i := 2) (oi := { dst := some 68, op := Op.move (Operand.tmp 3), type := 52, pos := "ref.go:167", after := #[], guard := none }) (v := ?_) rfl (by decide) (by kernel_rfl) (by kernel_rfl) (by kernel_rfl) (by kernel_rfl) (by rfl) ?_ ?_
              rotate_left
              · intro W hW; first | (go_simp; done) | (go_simp; with_reducible rfl)
              try simp only [Act.put, List.setIfInBounds_toArray, List.set_cons_zero, List.set_cons_succ]
              refine wpE_take (i := 3) (oi := { dst := some 69, op := Op.move (Operand.tmp 8), type := 3, pos := "ref.go:167", after := #[], guard := none }) (v := ?_) rfl (by decide) (by kernel_rfl) (by kernel_rfl) (by kernel_rfl) (by kernel_rfl) (by rfl) ?_ ?_
              rotate_left
              · intro W hW; first | (go_simp; done) | (go_simp; with_reducible rfl)
              try simp only [Act.put, List.setIfInBounds_toArray, List.set_cons_zero, List.set_cons_succ]
              refine wpE_take (i := 4) (oi := { dst := some 70, op := Op.indexAddr 52 (Operand.tmp 68) (Operand.tmp 69), type := 0, pos := "ref.go:167", after := #[{ on := 2, ground := Ground.data }, { on := 3, ground := Ground.data }], guard := none }) (v := ?_) rfl (by decide) (by kernel_rfl) (by kernel_rfl) (by kernel_rfl) (by kernel_rfl) (by rfl) ?_ ?_
              rotate_left
              · intro W hW; first | (go_simp; done) | (go_simp; with_reducible rfl)
              try simp only [Act.put, List.setIfInBounds_toArray, List.set_cons_zero, List.set_cons_succ]
              refine wpE_take (i := 5) (oi := { dst := some 71, op := Op.load 65 (Operand.tmp 70), type := 65, pos := "ref.go:167", after := #[{ on := 4, ground := Ground.data }], guard := none }) (v := ?_) rfl (by decide) (by kernel_rfl) (by kernel_rfl) (by kernel_rfl) (by kernel_rfl) (by rfl) ?_ ?_
              rotate_left
              · intro W hW; have hcW := cellW c0 hW; first | (go_simp; done) | (go_simp; with_reducible rfl)
              try simp only [Act.put, List.setIfInBounds_toArray, List.set_cons_zero, List.set_cons_succ]
              refine wpE_take (i := 6) (oi := { dst := some 72, op := Op.move (Operand.tmp 6), type := 52, pos := "ref.go:167", after := #[], guard := none }) (v := ?_) rfl (by decide) (by kernel_rfl) (by kernel_rfl) (by kernel_rfl) (by kernel_rfl) (by rfl) ?_ ?_
              rotate_left
              · intro W hW; first | (go_simp; done) | (go_simp; with_reducible rfl)
              try simp only [Act.put, List.setIfInBounds_toArray, List.set_cons_zero, List.set_cons_succ]
              refine wpE_take (i := 7) (oi := { dst := some 73, op := Op.move (Operand.tmp 8), type := 3, pos := "ref.go:167", after := #[], guard := none }) (v := ?_) rfl (by decide) (by kernel_rfl) (by kernel_rfl) (by kernel_rfl) (by kernel_rfl) (by rfl) ?_ ?_
              rotate_left
              · intro W hW; first | (go_simp; done) | (go_simp; with_reducible rfl)
              try simp only [Act.put, List.setIfInBounds_toArray, List.set_cons_zero, List.set_cons_succ]
              refine wpE_take (i := 8) (oi := { dst := some 74, op := Op.binOp BinOp.rem 3 (Operand.tmp 73) (Operand.const (Value.int IntKind.i64 5)) 3, type := 3, pos := "ref.go:167", after := #[{ on := 7, ground := Ground.data }], guard := none }) (v := ?_) rfl (by decide) (by kernel_rfl) (by kernel_rfl) (by kernel_rfl) (by kernel_rfl) (by rfl) ?_ ?_
              rotate_left
              · intro W hW; first | (go_simp; done) | (go_simp; with_reducible rfl)
              try simp only [Act.put, List.setIfInBounds_toArray, List.set_cons_zero, List.set_cons_succ]
              refine wpE_take (i := 9) (oi := { dst := some 75, op := Op.binOp BinOp.add 3 (Operand.tmp 74) (Operand.const (Value.int IntKind.i64 4)) 3, type := 3, pos := "ref.go:167", after := #[{ on := 8, ground := Ground.data }], guard := none }) (v := ?_) rfl (by decide) (by kernel_rfl) (by kernel_rfl) (by kernel_rfl) (by kernel_rfl) (by rfl) ?_ ?_
              rotate_left
              · intro W hW; first | (go_simp; done) | (go_simp; with_reducible rfl)
              try simp only [Act.put, List.setIfInBounds_toArray, List.set_cons_zero, List.set_cons_succ]
              refine wpE_take (i := 10) (oi := { dst := some 76, op := Op.binOp BinOp.rem 3 (Operand.tmp 75) (Operand.const (Value.int IntKind.i64 5)) 3, type := 3, pos := "ref.go:167", after := #[{ on := 9, ground := Ground.data }], guard := none }) (v := ?_) rfl (by decide) (by kernel_rfl) (by kernel_rfl) (by kernel_rfl) (by kernel_rfl) (by rfl) ?_ ?_
              rotate_left
              · intro W hW; first | (go_simp; done) | (go_simp; with_reducible rfl)
              try simp only [Act.put, List.setIfInBounds_toArray, List.set_cons_zero, List.set_cons_succ]
              refine wpE_take (i := 11) (oi := { dst := some 77, op := Op.indexAddr 52 (Operand.tmp 72) (Operand.tmp 76), type := 0, pos := "ref.go:167", after := #[{ on := 6, ground := Ground.data }, { on := 10, ground := Ground.data }], guard := none }) (v := ?_) rfl (by decide) (by kernel_rfl) (by kernel_rfl) (by kernel_rfl) (by kernel_rfl) (by rfl) ?_ ?_
              rotate_left
              · intro W hW; first | (go_simp; done) | (go_simp; with_reducible rfl)
              try simp only [Act.put, List.setIfInBounds_toArray, List.set_cons_zero, List.set_cons_succ]
              refine wpE_take (i := 12) (oi := { dst := some 78, op := Op.load 65 (Operand.tmp 77), type := 65, pos := "ref.go:167", after := #[{ on := 11, ground := Ground.data }], guard := none }) (v := ?_) rfl (by decide) (by kernel_rfl) (by kernel_rfl) (by kernel_rfl) (by kernel_rfl) (by rfl) ?_ ?_
              rotate_left
              · intro W hW; have hcW := cellW c4 hW; first | (go_simp; done) | (go_simp; with_reducible rfl)
              try simp only [Act.put, List.setIfInBounds_toArray, List.set_cons_zero, List.set_cons_succ]
              refine wpE_take (i := 13) (oi := { dst := some 79, op := Op.binOp BinOp.xor 65 (Operand.tmp 71) (Operand.tmp 78) 65, type := 65, pos := "ref.go:167", after := #[{ on := 5, ground := Ground.data }, { on := 12, ground := Ground.data }], guard := none }) (v := ?_) rfl (by decide) (by kernel_rfl) (by kernel_rfl) (by kernel_rfl) (by kernel_rfl) (by rfl) ?_ ?_
              rotate_left
              · intro W hW; first | (go_simp; done) | (go_simp; with_reducible rfl)
              try simp only [Act.put, List.setIfInBounds_toArray, List.set_cons_zero, List.set_cons_succ]
              refine wpE_take (i := 14) (oi := { dst := some 80, op := Op.move (Operand.tmp 6), type := 52, pos := "ref.go:167", after := #[], guard := none }) (v := ?_) rfl (by decide) (by kernel_rfl) (by kernel_rfl) (by kernel_rfl) (by kernel_rfl) (by rfl) ?_ ?_
              rotate_left
              · intro W hW; first | (go_simp; done) | (go_simp; with_reducible rfl)
              try simp only [Act.put, List.setIfInBounds_toArray, List.set_cons_zero, List.set_cons_succ]
              refine wpE_take (i := 15) (oi := { dst := some 81, op := Op.move (Operand.tmp 8), type := 3, pos := "ref.go:167", after := #[], guard := none }) (v := ?_) rfl (by decide) (by kernel_rfl) (by kernel_rfl) (by kernel_rfl) (by kernel_rfl) (by rfl) ?_ ?_
              rotate_left
              · intro W hW; first | (go_simp; done) | (go_simp; with_reducible rfl)
              try simp only [Act.put, List.setIfInBounds_toArray, List.set_cons_zero, List.set_cons_succ]
              refine wpE_take (i := 16) (oi := { dst := some 82, op := Op.binOp BinOp.rem 3 (Operand.tmp 81) (Operand.const (Value.int IntKind.i64 5)) 3, type := 3, pos := "ref.go:167", after := #[{ on := 15, ground := Ground.data }], guard := none }) (v := ?_) rfl (by decide) (by kernel_rfl) (by kernel_rfl) (by kernel_rfl) (by kernel_rfl) (by rfl) ?_ ?_
              rotate_left
              · intro W hW; first | (go_simp; done) | (go_simp; with_reducible rfl)
              try simp only [Act.put, List.setIfInBounds_toArray, List.set_cons_zero, List.set_cons_succ]
              refine wpE_take (i := 17) (oi := { dst := some 83, op := Op.binOp BinOp.add 3 (Operand.tmp 82) (Operand.const (Value.int IntKind.i64 1)) 3, type := 3, pos := "ref.go:167", after := #[{ on := 16, ground := Ground.data }], guard := none }) (v := ?_) rfl (by decide) (by kernel_rfl) (by kernel_rfl) (by kernel_rfl) (by kernel_rfl) (by rfl) ?_ ?_
              rotate_left
              · intro W hW; first | (go_simp; done) | (go_simp; with_reducible rfl)
              try simp only [Act.put, List.setIfInBounds_toArray, List.set_cons_zero, List.set_cons_succ]
              refine wpE_take (i := 18) (oi := { dst := some 84, op := Op.binOp BinOp.rem 3 (Operand.tmp 83) (Operand.const (Value.int IntKind.i64 5)) 3, type := 3, pos := "ref.go:167", after := #[{ on := 17, ground := Ground.data }], guard := none }) (v := ?_) rfl (by decide) (by kernel_rfl) (by kernel_rfl) (by kernel_rfl) (by kernel_rfl) (by rfl) ?_ ?_
              rotate_left
              · intro W hW; first | (go_simp; done) | (go_simp; with_reducible rfl)
              try simp only [Act.put, List.setIfInBounds_toArray, List.set_cons_zero, List.set_cons_succ]
              refine wpE_take (i := 19) (oi := { dst := some 85, op := Op.indexAddr 52 (Operand.tmp 80) (Operand.tmp 84), type := 0, pos := "ref.go:167", after := #[{ on := 14, ground := Ground.data }, { on := 18, ground := Ground.data }], guard := none }) (v := ?_) rfl (by decide) (by kernel_rfl) (by kernel_rfl) (by kernel_rfl) (by kernel_rfl) (by rfl) ?_ ?_
              rotate_left
              · intro W hW; first | (go_simp; done) | (go_simp; with_reducible rfl)
              try simp only [Act.put, List.setIfInBounds_toArray, List.set_cons_zero, List.set_cons_succ]
              refine wpE_take (i := 20) (oi := { dst := some 86, op := Op.load 65 (Operand.tmp 85), type := 65, pos := "ref.go:167", after := #[{ on := 19, ground := Ground.data }], guard := none }) (v := ?_) rfl (by decide) (by kernel_rfl) (by kernel_rfl) (by kernel_rfl) (by kernel_rfl) (by rfl) ?_ ?_
              rotate_left
              · intro W hW; have hcW := cellW c1 hW; first | (go_simp; done) | (go_simp; with_reducible rfl)
              try simp only [Act.put, List.setIfInBounds_toArray, List.set_cons_zero, List.set_cons_succ]
              refine wpE_do (i := 21) (o := { dst := some 87, op := Op.call { callee := Callee.value (Operand.func 54), args := #[Operand.tmp 86, Operand.const (Value.int IntKind.i64 1)], argTypes := #[65, 3] }, type := 65, pos := "ref.go:167", after := #[{ on := 20, ground := Ground.data }], guard := none }) (by kernel_rfl) rfl (by rfl) fun K hK => ?_
              go_simp
              refine (turn_any q1 1 _ _ rfl rfl hcl (by decide) _).mono ?_
              rintro e w' ⟨rfl, rfl⟩
              refine hK.out _ _ (Below.refl _ _) ?_
              clear hK K
              try simp only [Act.put, List.setIfInBounds_toArray, List.set_cons_zero, List.set_cons_succ]
              refine wpE_take (i := 22) (oi := { dst := some 88, op := Op.binOp BinOp.xor 65 (Operand.tmp 79) (Operand.tmp 87) 65, type := 65, pos := "ref.go:167", after := #[{ on := 13, ground := Ground.data }, { on := 21, ground := Ground.data }], guard := none }) (v := ?_) rfl (by decide) (by kernel_rfl) (by kernel_rfl) (by kernel_rfl) (by kernel_rfl) (by rfl) ?_ ?_
              rotate_left
              · intro W hW; first | (go_simp; done) | (go_simp; with_reducible rfl)
              try simp only [Act.put, List.setIfInBounds_toArray, List.set_cons_zero, List.set_cons_succ]
              refine wpE_take (i := 23) (oi := { dst := some 89, op := Op.indexAddr 52 (Operand.tmp 66) (Operand.tmp 67), type := 0, pos := "ref.go:167", after := #[{ on := 0, ground := Ground.data }, { on := 1, ground := Ground.data }, { on := 0, ground := Ground.phase }, { on := 1, ground := Ground.phase }, { on := 2, ground := Ground.phase }, { on := 3, ground := Ground.phase }, { on := 4, ground := Ground.phase }, { on := 5, ground := Ground.phase }, { on := 6, ground := Ground.phase }, { on := 7, ground := Ground.phase }, { on := 8, ground := Ground.phase }, { on := 9, ground := Ground.phase }, { on := 10, ground := Ground.phase }, { on := 11, ground := Ground.phase }, { on := 12, ground := Ground.phase }, { on := 13, ground := Ground.phase }, { on := 14, ground := Ground.phase }, { on := 15, ground := Ground.phase }, { on := 16, ground := Ground.phase }, { on := 17, ground := Ground.phase }, { on := 18, ground := Ground.phase }, { on := 19, ground := Ground.phase }, { on := 20, ground := Ground.phase }, { on := 21, ground := Ground.phase }, { on := 22, ground := Ground.phase }], guard := none }) (v := ?_) rfl (by decide) (by kernel_rfl) (by kernel_rfl) (by kernel_rfl) (by kernel_rfl) (by rfl) ?_ ?_
              rotate_left
              · intro W hW; first | (go_simp; done) | (go_simp; with_reducible rfl)
              try simp only [Act.put, List.setIfInBounds_toArray, List.set_cons_zero, List.set_cons_succ]
              refine wpE_last (o := { dst := none, op := Op.store 65 (Operand.tmp 89) (Operand.tmp 88), type := 0, pos := "ref.go:167", after := #[{ on := 23, ground := Ground.data }, { on := 22, ground := Ground.data }, { on := 21, ground := Ground.chain }, { on := 0, ground := Ground.phase }, { on := 1, ground := Ground.phase }, { on := 2, ground := Ground.phase }, { on := 3, ground := Ground.phase }, { on := 4, ground := Ground.phase }, { on := 5, ground := Ground.phase }, { on := 6, ground := Ground.phase }, { on := 7, ground := Ground.phase }, { on := 8, ground := Ground.phase }, { on := 9, ground := Ground.phase }, { on := 10, ground := Ground.phase }, { on := 11, ground := Ground.phase }, { on := 12, ground := Ground.phase }, { on := 13, ground := Ground.phase }, { on := 14, ground := Ground.phase }, { on := 15, ground := Ground.phase }, { on := 16, ground := Ground.phase }, { on := 17, ground := Ground.phase }, { on := 18, ground := Ground.phase }, { on := 19, ground := Ground.phase }, { on := 20, ground := Ground.phase }, { on := 21, ground := Ground.phase }, { on := 22, ground := Ground.phase }], guard := none }) (by kernel_rfl) (by kernel_rfl) rfl (by rfl) fun K hK => ?_
              go_simp
              refine hK.out _ _ ?_
              clear hK K
              try simp only [Act.put, List.setIfInBounds_toArray, List.set_cons_zero, List.set_cons_succ]
              go_wp2
              go_roundw
              case rel => exact ⟨K + 1, by omega, by go_num, (HS.out _ HC.out).drew, (RowAt.other HRC.out (p := ⟨gs, K, none⟩) (by show gs ≠ gc; omega) _).drew⟩
              case measure => simp [intOf]; omega
            · have hKe : K = 25 := by omega
              have hd3 : decide ((K : Int) < 25) = false := decide_eq_false (by omega)
              have hK6 : (25 : Int) ≤ K := by omega
              rw [hKe, upQ_done] at hI5
              clear hKe hrc5
              have HG : Hid (∀ i, thL F i < 18446744073709551616) := thL_lt F HF.out
              have HN2 : Hid (rdsL f (J + 1) = ioK (chL (piF (rhL (thL F)))) J) := HN.out
              generalize thL F = G at hI5 HG HN2
              clear HF HN
              go_wp2_with fail
              refine (lanes_any _).mono ?_
              rintro e w6 ⟨v9, rfl, hN9⟩
              obtain ⟨gp, capp, e9, hgp, hrp⟩ := hN9.row (stL_ne _)
              rw [stL_length] at e9
              subst e9
              have hI6 := hI5.kept hN9.2
              have hgsp : gs < gp := Nat.lt_of_lt_of_le hI5.s.lt hgp
              have hgkp : gk < gp := Nat.lt_of_lt_of_le hI5.k.lt hgp
              have hwp : w.heap.size ≤ gp := Nat.le_trans hI5.b.size hgp
              clear hI5 hN9 hgp
              have hcap := hI6.s.cap
              rw [stL_length] at hcap
              have hcapp := hrp.cap
              rw [stL_length] at hcapp
              have c0 := hI6.s.cell (j := 0) (by rw [stL_length]; omega)
              rw [stL_get _ _ (by omega)] at c0
              have cp0 := hrp.cell (j := 0) (by rw [stL_length]; omega)
              have fp := hrp.free 0
              have HS : Hid (RowAt .u64 65 gp capp (stL (ppQ G 0)) (w6.setCell ⟨gp, 0, none⟩ (.int .u64 ((G 0 : Nat) : Int)))) := by
                rw [← ppQ_zero]
                exact hrp.set 0 _
              have HI7 : Hid (FastI w gs caps gk capk (stL G) (w6.setCell ⟨gp, 0, none⟩ (.int .u64 ((G 0 : Nat) : Int)))) := hI6.other (p := ⟨gp, 0, none⟩) (by show gp ≠ gs; omega) (by show gp ≠ gk; omega) hwp _
              generalize G 0 = q at c0 HS HI7
              generalize (stL (fun _ => 0)).getD 0 0 = q2 at cp0
              clear hI6 hrp
              go_wp2_with fail
              clear c0 cp0 fp
              generalize w6.setCell ⟨gp, 0, none⟩ (.int .u64 (q : Int)) = w7 at HS HI7
              go_loopw [10, 11, 12] (fun xv yv i wr => ∃ T x y : Nat, T ≤ 24 ∧ x < 5 ∧ y < 5 ∧ i = .int .i64 T ∧ xv = .int .i64 x ∧ yv = .int .i64 y ∧ Hid (rhXY T = (x, y)) ∧ FastI w gs caps gk capk (stL G) wr ∧ RowAt .u64 65 gp capp (stL (ppQ G T)) wr) (fun _ _ i _ => 24 - (intOf i).toNat)
              case atStart => exact ⟨0, 1, 0, by omega, by omega, by omega, rfl, rfl, rfl, rfl, HI7.out, HS.out⟩
              case round =>
                obtain ⟨T, x, y, hT, hx, hy, rfl, rfl, rfl, HXY, hI8, hrp8⟩ := hrel
                clear HI7 HS
                by_cases hT24 : T < 24
                · have HP : Hid (rhPos T = x + 5 * y) := by show rhPos T = _; unfold rhPos; rw [HXY.out]
                  have HXY2 : Hid (rhXY (T + 1) = (y, (2 * x + 3 * y) % 5)) := by show rhXY (T + 1) = _; unfold rhXY; rw [HXY.out]
                  have HP2 : Hid (rhPos (T + 1) = y + 5 * ((2 * x + 3 * y) % 5)) := by show rhPos (T + 1) = _; unfold rhPos; rw [HXY2.out]
                  obtain ⟨p, hp⟩ : ∃ p : Nat, p = (T + 1) * (T + 2) := ⟨_, rfl⟩
                  have hpb : p ≤ 600 := by
                    rw [hp]
                    exact Nat.le_trans (Nat.mul_le_mul (show T + 1 ≤ 24 by omega) (show T + 2 ≤ 25 by omega)) (by decide)
                  have hpi : ((T : Int) + 1) * ((T : Int) + 2) = (p : Int) := by rw [hp]; simp
                  obtain ⟨bb, hbb⟩ : ∃ bb : Nat, bb = p / 2 % 64 := ⟨_, rfl⟩
                  have hbl : bb < 64 := by omega
                  have HBI : Hid ((p : Int) / 2 % 64 = (bb : Int)) := by show (p : Int) / 2 % 64 = _; omega
                  have HBy : Hid (rhBy T = bb) := by rw [hbb, hp]; rfl
                  have c0 := hI8.s.cell (j := x + 5 * y) (by rw [stL_length]; omega)
                  rw [stL_get _ _ (by omega)] at c0
                  have cp := hrp8.cell (j := y + 5 * ((2 * x + 3 * y) % 5)) (by rw [stL_length]; omega)
                  have fp := hrp8.free (y + 5 * ((2 * x + 3 * y) % 5))
                  have hq := HG.out (x + 5 * y)
                  have HS : Hid (∀ z : Int, z = ((turnN (G (x + 5 * y)) bb : Nat) : Int) → RowAt .u64 65 gp capp (stL (ppQ G (T + 1))) (wr.setCell ⟨gp, y + 5 * ((2 * x + 3 * y) % 5), none⟩ (.int .u64 z))) := by
                    intro z hz
                    rw [← ppQ_set G T hT24, HP.out, HP2.out, HBy.out, ← hz]
                    exact hrp8.set _ _
                  have HI9 : Hid (∀ u, FastI w gs caps gk capk (stL G) (wr.setCell ⟨gp, y + 5 * ((2 * x + 3 * y) % 5), none⟩ u)) := fun u => hI8.other (p := ⟨gp, y + 5 * ((2 * x + 3 * y) % 5), none⟩) (by show gp ≠ gs; omega) (by show gp ≠ gk; omega) hwp u
                  generalize G (x + 5 * y) = q0 at c0 HS hq
                  generalize (stL (ppQ G T)).getD (y + 5 * ((2 * x + 3 * y) % 5)) 0 = q3 at cp
                  have j1 : (x : Int) + 5 * (y : Int) < 25 := by omega
                  have j2 : (y : Int) + 5 * ((2 * (x : Int) + 3 * (y : Int)) % 5) < 25 := by omega
                  clear hp hbb hI8 hrp8
                  go_wp2_with fail
                  refine (turn_any q0 bb _ _ rfl (by have := HBI.out; omega) hq hbl _).mono ?_
                  rintro e w' ⟨rfl, rfl⟩
                  clear hpi
                  go_wp2
                  go_roundw
                  case rel => exact ⟨T + 1, y, (2 * x + 3 * y) % 5, by omega, by omega, by omega, by go_num, rfl, by go_num, HXY2, HI9.out _, HS.out _ rfl⟩
                  case measure => simp [intOf]; omega
                · have hTe : T = 24 := by omega
                  have hd4 : decide ((T : Int) < 24) = false := decide_eq_false (by omega)
                  have hT6 : (24 : Int) ≤ T := by omega
                  rw [hTe, ppQ_done] at hrp8
                  clear hTe HXY
                  have HH : Hid (∀ i, piF (rhL G) i < 18446744073709551616) := piF_lt _ (rhL_lt G HG.out)
                  generalize piF (rhL G) = H at hrp8 HH HN2
                  rw [upQ_zero G (chL H)] at hI8
                  go_wp2_with fail
                  go_loopw [14] (fun i wr => ∃ K : Nat, K ≤ 25 ∧ i = .int .i64 K ∧ FastI w gs caps gk capk (stL (upQ G (chL H) K)) wr ∧ RowAt .u64 65 gp capp (stL H) wr) (fun i _ => 25 - (intOf i).toNat)
                  case atStart => exact ⟨0, by omega, rfl, hI8, hrp8⟩
                  case round =>
                    obtain ⟨L, hL, rfl, hI9, hrp9⟩ := hrel
                    clear hI8 hrp8
                    by_cases hL25 : L < 25
                    · have hcap := hI9.s.cap
                      rw [stL_length] at hcap
                      have hcapp := hrp9.cap
                      rw [stL_length] at hcapp
                      obtain ⟨k5, hk5⟩ : ∃ m : Nat, m = L % 5 := ⟨_, rfl⟩
                      obtain ⟨m2, hm2⟩ : ∃ m : Nat, m = (L % 5 + 2) % 5 := ⟨_, rfl⟩
                      obtain ⟨m1, hm1⟩ : ∃ m : Nat, m = (L % 5 + 1) % 5 := ⟨_, rfl⟩
                      obtain ⟨r5, hr5⟩ : ∃ m : Nat, m = L - L % 5 := ⟨_, rfl⟩
                      have HC : Hid _ := chI H HH.out L
                      rw [← hr5, ← hm2, ← hm1] at HC
                      have c0 := hrp9.cell (j := L) (by rw [stL_length]; omega)
                      have c1 := hrp9.cell (j := r5 + m1) (by rw [stL_length]; omega)
                      have c2 := hrp9.cell (j := r5 + m2) (by rw [stL_length]; omega)
                      rw [stL_get _ _ (by omega)] at c0 c1 c2
                      have cs := hI9.s.cell (j := L) (by rw [stL_length]; omega)
                      have fs := hI9.s.free L
                      have HS : Hid (∀ z : Int, z = ((chL H L : Nat) : Int) → FastI w gs caps gk capk (stL (upQ G (chL H) (L + 1))) (wr.setCell ⟨gs, L, none⟩ (.int .u64 z))) := by
                        intro z hz
                        rw [← upQ_set, ← hz]
                        exact hI9.set hgs hlt L z
                      have HRP : Hid _ := hrp9
                      generalize H L = q0 at c0 HC
                      generalize H (r5 + m1) = q1 at c1 HC
                      generalize H (r5 + m2) = q2 at c2 HC
                      generalize (stL (upQ G (chL H) L)).getD L 0 = q3 at cs
                      have u0 : (L : Int) % 5 = (k5 : Int) := by omega
                      have u2 : ((k5 : Int) + 2) % 5 = (m2 : Int) := by omega
                      have u1 : ((k5 : Int) + 1) % 5 = (m1 : Int) := by omega
                      have t0 : (L : Int).tmod 5 = (k5 : Int) := by rw [hk5]; exact Int.tmod_eq_emod_of_nonneg (by omega)
                      have t1 : ((k5 : Int) + 1).tmod 5 = (m1 : Int) := by rw [Int.tmod_eq_emod_of_nonneg (by omega)]; omega
                      have v1 : IntKind.i64.wrap ((k5 : Int) + 1) = (k5 : Int) + 1 := IntWalk.i64_in _ (by omega)
                      have r0 : (L : Int) - (k5 : Int) = (r5 : Int) := by omega
                      have b1 : (r5 : Int) + (m1 : Int) < 25 := by omega
                      have b2 : (r5 : Int) + (m2 : Int) < 25 := by omega
                      have b3 : 0 ≤ (r5 : Int) + (m1 : Int) := by omega
                      have v2 : IntKind.i64.wrap ((r5 : Int) + (m1 : Int)) = (r5 : Int) + (m1 : Int) := IntWalk.i64_in _ (by omega)
                      have n1 : ((r5 : Int) + (m1 : Int)).toNat = r5 + m1 := by omega
                      have k5b : k5 < 5 := by omega
                      have m1b : m1 < 5 := by omega
                      have m2b : m2 < 5 := by omega
                      have r5b : r5 ≤ 20 := by omega
                      have hLi : (L : Int) < 25 := by omega
                      clear hI9 hrp9 hk5 hm2 hm1 hr5
                      go_wp2_with fail
                      refine wpE_begin 21 (by kernel_rfl) ?_
                      refine wpE_take (i := 0) (oi := { dst := some 151, op := Op.move (Operand.tmp 3), type := 52, pos := "ref.go:182", after := #[], guard := none }) (v := ?_) rfl (by decide) (by kernel_rfl) (by kernel_rfl) (by kernel_rfl) (by kernel_rfl) (by rfl) ?_ ?_
                      rotate_left
                      · intro W hW; first | (go_simp; done) | (go_simp; with_reducible rfl)
                      try simp only [Act.put, List.setIfInBounds_toArray, List.set_cons_zero, List.set_cons_succ]
                      refine wpE_take (i := 1) (oi := { dst := some 152, op := Op.move (Operand.tmp 14), type := 3, pos := "ref.go:182", after := #[], guard := none }) (v := ?_) rfl (by decide) (by kernel_rfl) (by kernel_rfl) (by kernel_rfl) (by kernel_rfl) (by rfl) ?_ ?_
                      rotate_left
                      · intro W hW; first | (go_simp; done) | (go_simp; with_reducible rfl)
                      try simp only [Act.put, List.setIfInBounds_toArray, List.set_cons_zero, List.set_cons_succ]
                      refine wpE_take (i := 2) (oi := { dst := some 153, op := Op.move (Operand.tmp 9), type := 52, pos := "ref.go:182", after := #[], guard := none }) (v := ?_) rfl (by decide) (by kernel_rfl) (by kernel_rfl) (by kernel_rfl) (by kernel_rfl) (by rfl) ?_ ?_
                      rotate_left
                      · intro W hW; first | (go_simp; done) | (go_simp; with_reducible rfl)
                      try simp only [Act.put, List.setIfInBounds_toArray, List.set_cons_zero, List.set_cons_succ]
                      refine wpE_take (i := 3) (oi := { dst := some 154, op := Op.move (Operand.tmp 14), type := 3, pos := "ref.go:182", after := #[], guard := none }) (v := ?_) rfl (by decide) (by kernel_rfl) (by kernel_rfl) (by kernel_rfl) (by kernel_rfl) (by rfl) ?_ ?_
                      rotate_left
                      · intro W hW; first | (go_simp; done) | (go_simp; with_reducible rfl)
                      try simp only [Act.put, List.setIfInBounds_toArray, List.set_cons_zero, List.set_cons_succ]
                      refine wpE_take (i := 4) (oi := { dst := some 155, op := Op.indexAddr 52 (Operand.tmp 153) (Operand.tmp 154), type := 0, pos := "ref.go:182", after := #[{ on := 2, ground := Ground.data }, { on := 3, ground := Ground.data }], guard := none }) (v := ?_) rfl (by decide) (by kernel_rfl) (by kernel_rfl) (by kernel_rfl) (by kernel_rfl) (by rfl) ?_ ?_
                      rotate_left
                      · intro W hW; first | (go_simp; done) | (go_simp; with_reducible rfl)
                      try simp only [Act.put, List.setIfInBounds_toArray, List.set_cons_zero, List.set_cons_succ]
                      refine wpE_take (i := 5) (oi := { dst := some 156, op := Op.load 65 (Operand.tmp 155), type := 65, pos := "ref.go:182", after := #[{ on := 4, ground := Ground.data }], guard := none }) (v := ?_) rfl (by decide) (by kernel_rfl) (by kernel_rfl) (by kernel_rfl) (by kernel_rfl) (by rfl) ?_ ?_
                      rotate_left
                      · intro W hW; have hcW := cellW c0 hW; first | (go_simp; done) | (go_simp; with_reducible rfl)
                      try simp only [Act.put, List.setIfInBounds_toArray, List.set_cons_zero, List.set_cons_succ]
                      refine wpE_take (i := 6) (oi := { dst := some 157, op := Op.move (Operand.tmp 16), type := 65, pos := "ref.go:182", after := #[], guard := none }) (v := ?_) rfl (by decide) (by kernel_rfl) (by kernel_rfl) (by kernel_rfl) (by kernel_rfl) (by rfl) ?_ ?_
                      rotate_left
                      · intro W hW; first | (go_simp; done) | (go_simp; with_reducible rfl)
                      try simp only [Act.put, List.setIfInBounds_toArray, List.set_cons_zero, List.set_cons_succ]
                      refine wpE_take (i := 7) (oi := { dst := some 158, op := Op.move (Operand.tmp 16), type := 65, pos := "ref.go:182", after := #[], guard := none }) (v := ?_) rfl (by decide) (by kernel_rfl) (by kernel_rfl) (by kernel_rfl) (by kernel_rfl) (by rfl) ?_ ?_
                      rotate_left
                      · intro W hW; first | (go_simp; done) | (go_simp; with_reducible rfl)
                      try simp only [Act.put, List.setIfInBounds_toArray, List.set_cons_zero, List.set_cons_succ]
                      refine wpE_take (i := 8) (oi := { dst := some 159, op := Op.move (Operand.tmp 9), type := 52, pos := "ref.go:182", after := #[], guard := none }) (v := ?_) rfl (by decide) (by kernel_rfl) (by kernel_rfl) (by kernel_rfl) (by kernel_rfl) (by rfl) ?_ ?_
                      rotate_left
                      · intro W hW; first | (go_simp; done) | (go_simp; with_reducible rfl)
                      try simp only [Act.put, List.setIfInBounds_toArray, List.set_cons_zero, List.set_cons_succ]
                      refine wpE_take (i := 9) (oi := { dst := some 160, op := Op.move (Operand.tmp 15), type := 3, pos := "ref.go:182", after := #[], guard := none }) (v := ?_) rfl (by decide) (by kernel_rfl) (by kernel_rfl) (by kernel_rfl) (by kernel_rfl) (by rfl) ?_ ?_
                      rotate_left
                      · intro W hW; first | (go_simp; done) | (go_simp; with_reducible rfl)
                      try simp only [Act.put, List.setIfInBounds_toArray, List.set_cons_zero, List.set_cons_succ]
                      refine wpE_take (i := 10) (oi := { dst := some 161, op := Op.move (Operand.tmp 14), type := 3, pos := "ref.go:182", after := #[], guard := none }) (v := ?_) rfl (by decide) (by kernel_rfl) (by kernel_rfl) (by kernel_rfl) (by kernel_rfl) (by rfl) ?_ ?_
                      rotate_left
                      · intro W hW; first | (go_simp; done) | (go_simp; with_reducible rfl)
                      try simp only [Act.put, List.setIfInBounds_toArray, List.set_cons_zero, List.set_cons_succ]
                      refine wpE_take (i := 11) (oi := { dst := some 162, op := Op.binOp BinOp.rem 3 (Operand.tmp 161) (Operand.const (Value.int IntKind.i64 5)) 3, type := 3, pos := "ref.go:182", after := #[{ on := 10, ground := Ground.data }], guard := none }) (v := ?_) rfl (by decide) (by kernel_rfl) (by kernel_rfl) (by kernel_rfl) (by kernel_rfl) (by rfl) ?_ ?_
                      rotate_left
                      · intro W hW; first | (go_simp; done) | (go_simp; with_reducible rfl)
                      try simp only [Act.put, List.setIfInBounds_toArray, List.set_cons_zero, List.set_cons_succ]
                      refine wpE_take (i := 12) (oi := { dst := some 163, op := Op.binOp BinOp.add 3 (Operand.tmp 162) (Operand.const (Value.int IntKind.i64 1)) 3, type := 3, pos := "ref.go:182", after := #[{ on := 11, ground := Ground.data }], guard := none }) (v := ?_) rfl (by decide) (by kernel_rfl) (by kernel_rfl) (by kernel_rfl) (by kernel_rfl) (by rfl) ?_ ?_
                      rotate_left
                      · intro W hW; first | (go_simp; done) | (go_simp; with_reducible rfl)
                      try simp only [Act.put, List.setIfInBounds_toArray, List.set_cons_zero, List.set_cons_succ]
                      refine wpE_take (i := 13) (oi := { dst := some 164, op := Op.binOp BinOp.rem 3 (Operand.tmp 163) (Operand.const (Value.int IntKind.i64 5)) 3, type := 3, pos := "ref.go:182", after := #[{ on := 12, ground := Ground.data }], guard := none }) (v := ?_) rfl (by decide) (by kernel_rfl) (by kernel_rfl) (by kernel_rfl) (by kernel_rfl) (by rfl) ?_ ?_
                      rotate_left
                      · intro W hW; first | (go_simp; done) | (go_simp; with_reducible rfl)
                      try simp only [Act.put, List.setIfInBounds_toArray, List.set_cons_zero, List.set_cons_succ]
                      refine wpE_take (i := 14) (oi := { dst := some 165, op := Op.binOp BinOp.add 3 (Operand.tmp 160) (Operand.tmp 164) 3, type := 3, pos := "ref.go:182", after := #[{ on := 9, ground := Ground.data }, { on := 13, ground := Ground.data }], guard := none }) (v := ?_) rfl (by decide) (by kernel_rfl) (by kernel_rfl) (by kernel_rfl) (by kernel_rfl) (by rfl) ?_ ?_
                      rotate_left
                      · intro W hW; first | (go_simp; done) | (go_simp; with_reducible rfl)
                      try simp only [Act.put, List.setIfInBounds_toArray, List.set_cons_zero, List.set_cons_succ]
                      refine wpE_take (i := 15) (oi := { dst := some 166, op := Op.indexAddr 52 (Operand.tmp 159) (Operand.tmp 165), type := 0, pos := "ref.go:182", after := #[{ on := 8, ground := Ground.data }, { on := 14, ground := Ground.data }], guard := none }) (v := ?_) rfl (by decide) (by kernel_rfl) (by kernel_rfl) (by kernel_rfl) (by kernel_rfl) (by rfl) ?_ ?_
                      rotate_left
                      · intro W hW; first | (go_simp; done) | (go_simp; with_reducible rfl)
                      try simp only [Act.put, List.setIfInBounds_toArray, List.set_cons_zero, List.set_cons_succ]
                      refine wpE_take (i := 16) (oi := { dst := some 167, op := Op.load 65 (Operand.tmp 166), type := 65, pos := "ref.go:182", after := #[{ on := 15, ground := Ground.data }], guard := none }) (v := ?_) rfl (by decide) (by kernel_rfl) (by kernel_rfl) (by kernel_rfl) (by kernel_rfl) (by rfl) ?_ ?_
                      rotate_left
                      · intro W hW; have hcW := cellW c1 hW; first | (go_simp; done) | (go_simp; with_reducible rfl)
                      try simp only [Act.put, List.setIfInBounds_toArray, List.set_cons_zero, List.set_cons_succ]
                      refine wpE_take (i := 17) (oi := { dst := some 168, op := Op.binOp BinOp.and 65 (Operand.tmp 158) (Operand.tmp 167) 65, type := 65, pos := "ref.go:182", after := #[{ on := 7, ground := Ground.data }, { on := 16, ground := Ground.data }], guard := none }) (v := ?_) rfl (by decide) (by kernel_rfl) (by kernel_rfl) (by kernel_rfl) (by kernel_rfl) (by rfl) ?_ ?_
                      rotate_left
                      · intro W hW; first | (go_simp; done) | (go_simp; with_reducible rfl)
                      try simp only [Act.put, List.setIfInBounds_toArray, List.set_cons_zero, List.set_cons_succ]
                      refine wpE_take (i := 18) (oi := { dst := some 169, op := Op.binOp BinOp.sub 65 (Operand.tmp 157) (Operand.tmp 168) 65, type := 65, pos := "ref.go:182", after := #[{ on := 6, ground := Ground.data }, { on := 17, ground := Ground.data }], guard := none }) (v := ?_) rfl (by decide) (by kernel_rfl) (by kernel_rfl) (by kernel_rfl) (by kernel_rfl) (by rfl) ?_ ?_
                      rotate_left
                      · intro W hW; first | (go_simp; done) | (go_simp; with_reducible rfl)
                      try simp only [Act.put, List.setIfInBounds_toArray, List.set_cons_zero, List.set_cons_succ]
                      refine wpE_take (i := 19) (oi := { dst := some 170, op := Op.binOp BinOp.xor 65 (Operand.tmp 156) (Operand.tmp 169) 65, type := 65, pos := "ref.go:182", after := #[{ on := 5, ground := Ground.data }, { on := 18, ground := Ground.data }], guard := none }) (v := ?_) rfl (by decide) (by kernel_rfl) (by kernel_rfl) (by kernel_rfl) (by kernel_rfl) (by rfl) ?_ ?_
                      rotate_left
                      · intro W hW; first | (go_simp; done) | (go_simp; with_reducible rfl)
                      try simp only [Act.put, List.setIfInBounds_toArray, List.set_cons_zero, List.set_cons_succ]
                      refine wpE_take (i := 20) (oi := { dst := some 171, op := Op.indexAddr 52 (Operand.tmp 151) (Operand.tmp 152), type := 0, pos := "ref.go:182", after := #[{ on := 0, ground := Ground.data }, { on := 1, ground := Ground.data }, { on := 0, ground := Ground.phase }, { on := 1, ground := Ground.phase }, { on := 2, ground := Ground.phase }, { on := 3, ground := Ground.phase }, { on := 4, ground := Ground.phase }, { on := 5, ground := Ground.phase }, { on := 6, ground := Ground.phase }, { on := 7, ground := Ground.phase }, { on := 8, ground := Ground.phase }, { on := 9, ground := Ground.phase }, { on := 10, ground := Ground.phase }, { on := 11, ground := Ground.phase }, { on := 12, ground := Ground.phase }, { on := 13, ground := Ground.phase }, { on := 14, ground := Ground.phase }, { on := 15, ground := Ground.phase }, { on := 16, ground := Ground.phase }, { on := 17, ground := Ground.phase }, { on := 18, ground := Ground.phase }, { on := 19, ground := Ground.phase }], guard := none }) (v := ?_) rfl (by decide) (by kernel_rfl) (by kernel_rfl) (by kernel_rfl) (by kernel_rfl) (by rfl) ?_ ?_
                      rotate_left
                      · intro W hW; first | (go_simp; done) | (go_simp; with_reducible rfl)
                      try simp only [Act.put, List.setIfInBounds_toArray, List.set_cons_zero, List.set_cons_succ]
                      refine wpE_last (o := { dst := none, op := Op.store 65 (Operand.tmp 171) (Operand.tmp 170), type := 0, pos := "ref.go:182", after := #[{ on := 20, ground := Ground.data }, { on := 19, ground := Ground.data }, { on := 0, ground := Ground.phase }, { on := 1, ground := Ground.phase }, { on := 2, ground := Ground.phase }, { on := 3, ground := Ground.phase }, { on := 4, ground := Ground.phase }, { on := 5, ground := Ground.phase }, { on := 6, ground := Ground.phase }, { on := 7, ground := Ground.phase }, { on := 8, ground := Ground.phase }, { on := 9, ground := Ground.phase }, { on := 10, ground := Ground.phase }, { on := 11, ground := Ground.phase }, { on := 12, ground := Ground.phase }, { on := 13, ground := Ground.phase }, { on := 14, ground := Ground.phase }, { on := 15, ground := Ground.phase }, { on := 16, ground := Ground.phase }, { on := 17, ground := Ground.phase }, { on := 18, ground := Ground.phase }, { on := 19, ground := Ground.phase }], guard := none }) (by kernel_rfl) (by kernel_rfl) rfl (by rfl) fun K hK => ?_
                      go_simp
                      refine hK.out _ _ ?_
                      clear hK K
                      try simp only [Act.put, List.setIfInBounds_toArray, List.set_cons_zero, List.set_cons_succ]
                      go_wp2
                      go_roundw
                      case rel => exact ⟨L + 1, by omega, by go_num, (HS.out _ HC.out).drew, (RowAt.other HRP.out (p := ⟨gs, L, none⟩) (by show gs ≠ gp; omega) _).drew⟩
                      case measure => simp [intOf]; omega
                    · have hLe : L = 25 := by omega
                      have hd5 : decide ((L : Int) < 25) = false := decide_eq_false (by omega)
                      have hL6 : (25 : Int) ≤ L := by omega
                      rw [hLe, upQ_done] at hI9
                      clear hLe hrp9
                      have hcap := hI9.s.cap
                      rw [stL_length] at hcap
                      have hcapk := hI9.k.cap
                      rw [show (kst.map fun x => ((x : Nat) : Int)).length = 24 from by simp [kst]] at hcapk
                      have c0 := hI9.s.cell (j := 0) (by rw [stL_length]; omega)
                      rw [stL_get _ _ (by omega)] at c0
                      have c1 := hI9.k.cell (j := J) (by simp [kst]; omega)
                      rw [kst_getI J hJ24] at c1
                      have fs := hI9.s.free 0
                      have HC : Hid _ := xorI (chL H 0) (kst.getD J 0) (chL_lt H HH.out 0) (kst_lt J hJ24)
                      have HS : Hid (∀ z : Int, z = ((chL H 0 ^^^ kst.getD J 0 : Nat) : Int) → FastI w gs caps gk capk (stL (rdsL f (J + 1))) (wr.setCell ⟨gs, 0, none⟩ (.int .u64 z))) := by
                        intro z hz
                        rw [HN2.out, ← ioKI, ← hz]
                        exact hI9.set hgs hlt 0 z
                      generalize chL H 0 = q0 at c0 HC HS
                      generalize kst.getD J 0 = q1 at c1 HC HS
                      have hJi : (J : Int) < 24 := by omega
                      clear hI9
                      go_wp2_with fail
                      refine wpE_begin 10 (by kernel_rfl) ?_
                      refine wpE_take (i := 0) (oi := { dst := some 172, op := Op.move (Operand.tmp 3), type := 52, pos := "ref.go:184", after := #[], guard := none }) (v := ?_) rfl (by decide) (by kernel_rfl) (by kernel_rfl) (by kernel_rfl) (by kernel_rfl) (by rfl) ?_ ?_
                      rotate_left
                      · intro W hW; first | (go_simp; done) | (go_simp; with_reducible rfl)
                      try simp only [Act.put, List.setIfInBounds_toArray, List.set_cons_zero, List.set_cons_succ]
                      refine wpE_take (i := 1) (oi := { dst := some 173, op := Op.move (Operand.tmp 3), type := 52, pos := "ref.go:184", after := #[], guard := none }) (v := ?_) rfl (by decide) (by kernel_rfl) (by kernel_rfl) (by kernel_rfl) (by kernel_rfl) (by rfl) ?_ ?_
                      rotate_left
                      · intro W hW; first | (go_simp; done) | (go_simp; with_reducible rfl)
                      try simp only [Act.put, List.setIfInBounds_toArray, List.set_cons_zero, List.set_cons_succ]
                      refine wpE_take (i := 2) (oi := { dst := some 174, op := Op.indexAddr 52 (Operand.tmp 173) (Operand.const (Value.int IntKind.i64 0)), type := 0, pos := "ref.go:184", after := #[{ on := 1, ground := Ground.data }], guard := none }) (v := ?_) rfl (by decide) (by kernel_rfl) (by kernel_rfl) (by kernel_rfl) (by kernel_rfl) (by rfl) ?_ ?_
                      rotate_left
                      · intro W hW; first | (go_simp; done) | (go_simp; with_reducible rfl)
                      try simp only [Act.put, List.setIfInBounds_toArray, List.set_cons_zero, List.set_cons_succ]
                      refine wpE_take (i := 3) (oi := { dst := some 175, op := Op.load 65 (Operand.tmp 174), type := 65, pos := "ref.go:184", after := #[{ on := 2, ground := Ground.data }], guard := none }) (v := ?_) rfl (by decide) (by kernel_rfl) (by kernel_rfl) (by kernel_rfl) (by kernel_rfl) (by rfl) ?_ ?_
                      rotate_left
                      · intro W hW; have hcW := cellW c0 hW; first | (go_simp; done) | (go_simp; with_reducible rfl)
                      try simp only [Act.put, List.setIfInBounds_toArray, List.set_cons_zero, List.set_cons_succ]
                      refine wpE_take (i := 4) (oi := { dst := some 176, op := Op.move (Operand.tmp 4), type := 52, pos := "ref.go:184", after := #[], guard := none }) (v := ?_) rfl (by decide) (by kernel_rfl) (by kernel_rfl) (by kernel_rfl) (by kernel_rfl) (by rfl) ?_ ?_
                      rotate_left
                      · intro W hW; first | (go_simp; done) | (go_simp; with_reducible rfl)
                      try simp only [Act.put, List.setIfInBounds_toArray, List.set_cons_zero, List.set_cons_succ]
                      refine wpE_take (i := 5) (oi := { dst := some 177, op := Op.move (Operand.tmp 5), type := 3, pos := "ref.go:184", after := #[], guard := none }) (v := ?_) rfl (by decide) (by kernel_rfl) (by kernel_rfl) (by kernel_rfl) (by kernel_rfl) (by rfl) ?_ ?_
                      rotate_left
                      · intro W hW; first | (go_simp; done) | (go_simp; with_reducible rfl)
                      try simp only [Act.put, List.setIfInBounds_toArray, List.set_cons_zero, List.set_cons_succ]
                      refine wpE_take (i := 6) (oi := { dst := some 178, op := Op.indexAddr 52 (Operand.tmp 176) (Operand.tmp 177), type := 0, pos := "ref.go:184", after := #[{ on := 4, ground := Ground.data }, { on := 5, ground := Ground.data }], guard := none }) (v := ?_) rfl (by decide) (by kernel_rfl) (by kernel_rfl) (by kernel_rfl) (by kernel_rfl) (by rfl) ?_ ?_
                      rotate_left
                      · intro W hW; first | (go_simp; done) | (go_simp; with_reducible rfl)
                      try simp only [Act.put, List.setIfInBounds_toArray, List.set_cons_zero, List.set_cons_succ]
                      refine wpE_take (i := 7) (oi := { dst := some 179, op := Op.load 65 (Operand.tmp 178), type := 65, pos := "ref.go:184", after := #[{ on := 6, ground := Ground.data }], guard := none }) (v := ?_) rfl (by decide) (by kernel_rfl) (by kernel_rfl) (by kernel_rfl) (by kernel_rfl) (by rfl) ?_ ?_
                      rotate_left
                      · intro W hW; have hcW := cellW c1 hW; first | (go_simp; done) | (go_simp; with_reducible rfl)
                      try simp only [Act.put, List.setIfInBounds_toArray, List.set_cons_zero, List.set_cons_succ]
                      refine wpE_take (i := 8) (oi := { dst := some 180, op := Op.binOp BinOp.xor 65 (Operand.tmp 175) (Operand.tmp 179) 65, type := 65, pos := "ref.go:184", after := #[{ on := 3, ground := Ground.data }, { on := 7, ground := Ground.data }], guard := none }) (v := ?_) rfl (by decide) (by kernel_rfl) (by kernel_rfl) (by kernel_rfl) (by kernel_rfl) (by rfl) ?_ ?_
                      rotate_left
                      · intro W hW; first | (go_simp; done) | (go_simp; with_reducible rfl)
                      try simp only [Act.put, List.setIfInBounds_toArray, List.set_cons_zero, List.set_cons_succ]
                      refine wpE_take (i := 9) (oi := { dst := some 181, op := Op.indexAddr 52 (Operand.tmp 172) (Operand.const (Value.int IntKind.i64 0)), type := 0, pos := "ref.go:184", after := #[{ on := 0, ground := Ground.data }, { on := 0, ground := Ground.phase }, { on := 1, ground := Ground.phase }, { on := 2, ground := Ground.phase }, { on := 3, ground := Ground.phase }, { on := 4, ground := Ground.phase }, { on := 5, ground := Ground.phase }, { on := 6, ground := Ground.phase }, { on := 7, ground := Ground.phase }, { on := 8, ground := Ground.phase }], guard := none }) (v := ?_) rfl (by decide) (by kernel_rfl) (by kernel_rfl) (by kernel_rfl) (by kernel_rfl) (by rfl) ?_ ?_
                      rotate_left
                      · intro W hW; first | (go_simp; done) | (go_simp; with_reducible rfl)
                      try simp only [Act.put, List.setIfInBounds_toArray, List.set_cons_zero, List.set_cons_succ]
                      refine wpE_last (o := { dst := none, op := Op.store 65 (Operand.tmp 181) (Operand.tmp 180), type := 0, pos := "ref.go:184", after := #[{ on := 9, ground := Ground.data }, { on := 8, ground := Ground.data }, { on := 0, ground := Ground.phase }, { on := 1, ground := Ground.phase }, { on := 2, ground := Ground.phase }, { on := 3, ground := Ground.phase }, { on := 4, ground := Ground.phase }, { on := 5, ground := Ground.phase }, { on := 6, ground := Ground.phase }, { on := 7, ground := Ground.phase }, { on := 8, ground := Ground.phase }], guard := none }) (by kernel_rfl) (by kernel_rfl) rfl (by rfl) fun K hK => ?_
                      go_simp
                      refine hK.out _ _ ?_
                      clear hK K
                      try simp only [Act.put, List.setIfInBounds_toArray, List.set_cons_zero, List.set_cons_succ]
                      go_wp2
                      go_roundw
                      case rel => exact ⟨J + 1, by omega, by go_num, (HS.out _ HC.out).drew⟩
                      case measure => simp [intOf]; omega
    · have hJe : J = 24 := by omega
      rw [hJe, rdsL_st f Hf.out] at hI2
      clear hJe
      have hge : (24 : Int) ≤ J := by omega
      have hfin := hI2.s.new hgs hI2.b
      rw [stL_length] at hfin
      go_wp2
      go_ret
      exact ⟨_, rfl, hfin⟩
end Go.Proofs.YtlcnepnappfjeaaDoor
