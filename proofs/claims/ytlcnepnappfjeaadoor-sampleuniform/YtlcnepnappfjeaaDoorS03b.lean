/- What the functions take and lastBlock of package sponge answer: one block taken in, and the last block. -/
import Derived.Test.YtlcnepnappfjeaaDoorS03a
namespace Go.Proofs.YtlcnepnappfjeaaDoor
open Go.ChangeShapes Go.WideShapes Go.ChangeAt Go.RowKit
set_option linter.unusedSimpArgs false
set_option linter.unusedVariables false

/-! ### Lanes of bytes -/
theorem leN_noughts : ∀ n, leN (List.replicate n 0) = 0
  | 0 => rfl
  | n + 1 => by rw [List.replicate_succ, leN_cons, leN_noughts n]; rfl
theorem leN_pad (z : Nat) : ∀ l : List UInt8, leN (l ++ List.replicate z 0) = leN l
  | [] => by simpa [leN] using leN_noughts z
  | x :: xs => by rw [List.cons_append, leN_cons, leN_cons, leN_pad z xs]
theorem lane_any (l : List UInt8) (j : Nat) : leN (((l.drop (8 * j)).take (l.length - 8 * j)).take 8) = xbl (fun k => l.getD k 0) l.length j := by
  unfold xbl
  have e : (List.range 8).map (fun t => if 8 * j + t < l.length then l.getD (8 * j + t) 0 else 0) = (l.drop (8 * j)).take 8 ++ List.replicate (8 - (l.length - 8 * j)) 0 := by
    refine List.ext_getElem (by simp; omega) fun t h1 h2 => ?_
    have ht : t < 8 := by simpa using h1
    by_cases h : 8 * j + t < l.length
    · rw [List.getElem_append_left (by simp; omega)]
      simp [h]
    · rw [List.getElem_append_right (by simp; omega)]
      simp [h]
  rw [e, leN_pad, show (l.drop (8 * j)).take (l.length - 8 * j) = l.drop (8 * j) from List.take_of_length_le (by simp)]
theorem xbl_none (blk : Nat → UInt8) (r j : Nat) (h : r ≤ 8 * j) : xbl blk r j = 0 := by
  have e : (List.range 8).map (fun t => if 8 * j + t < r then blk (8 * j + t) else 0) = List.replicate 8 0 := by
    refine List.ext_getElem (by simp) fun t h1 h2 => ?_
    simp only [List.getElem_map, List.getElem_range, List.getElem_replicate]
    rw [if_neg (by omega)]
  unfold xbl
  rw [e, leN_noughts]
theorem arrV_congr {f g : Nat → Nat} (h : ∀ i, i < 25 → f i = g i) : arrV f = arrV g := by
  show Value.agg _ = Value.agg _
  rw [stL_congr h]
theorem arrV_F (f : Nat → Nat) (hf : ∀ i, f i < 18446744073709551616) : arrV (rdsL f 24) = arrV (rdsF f 24) := arrV_congr fun i hi => rdsL_eq f hf 24 (Nat.le_refl _) i hi

set_option maxRecDepth 100000 in
set_option maxHeartbeats 1000000 in
theorem take_any (A : Array Value) (f : Nat → Nat) (hf : ∀ i, f i < 18446744073709551616) (hA : A = ((stL f).map (Value.int .u64)).toArray) (vb : Value) (l : List UInt8) (hl : l.length ≤ 200) (w : World) (hr : Rd w vb l) (ht : Tabs w) :
    Calls Tryd.prog 65 #[.agg A, vb] w fun e w' => e = .returned (arrV (tkF f (fun k => l.getD k 0) l.length)) ∧ Below w.heap.size w w' := by
  have HA : Hid _ := hA
  have HF : Hid (∀ i, f i < 18446744073709551616) := hf
  obtain ⟨a, cap, rfl, h2, h3, h4, -⟩ := id hr
  have HR : Hid (Rd w (.slice a l.length cap) l) := hr
  clear hA hf hr
  obtain ⟨n, hn⟩ : ∃ n : Nat, n = (l.length + 7) / 8 := ⟨_, rfl⟩
  have q1 : IntKind.i64.wrap ((l.length : Int) + 8) = (l.length : Int) + 8 := IntWalk.i64_in _ (by omega)
  have q2 : IntKind.i64.wrap ((l.length : Int) + 8 - 1) = (l.length : Int) + 8 - 1 := IntWalk.i64_in _ (by omega)
  have q3 : ((l.length : Int) + 8 - 1).tdiv 8 = (n : Int) := by rw [Int.tdiv_eq_ediv_of_nonneg (by omega)]; omega
  have q4 : IntKind.i64.wrap (n : Int) = (n : Int) := IntWalk.i64_in _ (by omega)
  go_enter Tryd.func65, Tryd.ntmps65
  go_wp2
  rw [HA.out]
  obtain ⟨W, hW, hI, hs⟩ := two_rows f w _ zeros25 ht
  rw [hW]
  clear hW ht q1 q2 q3 q4
  go_loopw [11] (fun i wr => ∃ j : Nat, j ≤ n ∧ i = .int .i64 j ∧ KI w (upQ f (fun k => f k ^^^ xbl (fun k => l.getD k 0) l.length k) j) wr) (fun i _ => n - (intOf i).toNat)
  case atStart => exact ⟨0, by omega, rfl, by have e := upQ_zero f (fun k => f k ^^^ xbl (fun k => l.getD k 0) l.length k); exact ⟨e ▸ hI.a, hI.r, hI.b, hI.t, hI.two⟩⟩
  case round =>
    obtain ⟨j, hj, rfl, hI2⟩ := hrel
    clear hI hs
    by_cases hlt : j < n
    · have hd : decide ((j : Int) < (n : Int)) = true := decide_eq_true (by omega)
      have hjn : (j : Int) < n := by omega
      have hjI : (j : Int) < 25 := by omega
      have w8 : IntKind.i64.wrap (8 * (j : Int)) = 8 * (j : Int) := IntWalk.i64_in _ (by omega)
      have n8 : (8 * (j : Int)).toNat = 8 * j := by omega
      have hle : 8 * (j : Int) ≤ (l.length : Int) := by omega
      have hge : (0 : Int) ≤ 8 * (j : Int) := by omega
      have hcn : ¬ cap = 8 * j := by omega
      have hc := hI2.a.cell (j := j) (by rw [stL_length]; omega)
      have hcf := hI2.a.free j
      rw [stL_get _ j (by omega), upQ_get] at hc
      have hq := HF.out j
      obtain ⟨b, off, rfl⟩ : ∃ b off, a = some ⟨b, off, none⟩ := by
        obtain ⟨b, off, cp, e1, _⟩ := HR.out.cellAt (i := 0) (by omega)
        simp only [Value.slice.injEq] at e1
        exact ⟨b, off, e1.1⟩
      have hR1 := (HR.out.kept hI2.b).sub (8 * j) l.length (by omega) (Nat.le_refl _)
      have HLn : Hid _ := lane_any l j
      have HS : Hid (∀ x : Int, x = ((f j ^^^ xbl (fun k => l.getD k 0) l.length j : Nat) : Int) → KI w (upQ f (fun k => f k ^^^ xbl (fun k => l.getD k 0) l.length k) (j + 1)) (wr.setCell ⟨w.heap.size, j, none⟩ (.int .u64 x))) := by
        intro x hx
        exact hI2.set j x (by rw [hx]; exact upQ_set f (fun k => f k ^^^ xbl (fun k => l.getD k 0) l.length k) j)
      have HX : Hid _ := xorI (f j) (xbl (fun k => l.getD k 0) l.length j) hq (xbl_lt _ _ _)
      generalize f j = q0 at hc hq HX HS
      clear hI2
      go_wp2_with fail
      refine wpE_begin 10 (by kernel_rfl) ?_
      refine wpE_take (i := 0) (oi := { dst := some 14, op := Op.move (Operand.tmp 5), type := 3, pos := "sponge.go:63", after := #[], guard := none }) (v := ?_) rfl (by decide) (by kernel_rfl) (by kernel_rfl) (by kernel_rfl) (by kernel_rfl) (by rfl) ?_ ?_
      rotate_left
      · intro W hW; first | (go_simp; done) | (go_simp; with_reducible rfl)
      try simp only [Act.put, List.setIfInBounds_toArray, List.set_cons_zero, List.set_cons_succ]
      refine wpE_take (i := 1) (oi := { dst := some 15, op := Op.indexAddr 66 (Operand.tmp 2) (Operand.tmp 14), type := 0, pos := "sponge.go:63", after := #[{ on := 0, ground := Ground.data }], guard := none }) (v := ?_) rfl (by decide) (by kernel_rfl) (by kernel_rfl) (by kernel_rfl) (by kernel_rfl) (by rfl) ?_ ?_
      rotate_left
      · intro W hW; first | (go_simp; done) | (go_simp; with_reducible rfl)
      try simp only [Act.put, List.setIfInBounds_toArray, List.set_cons_zero, List.set_cons_succ]
      refine wpE_take (i := 2) (oi := { dst := some 16, op := Op.load 65 (Operand.tmp 15), type := 65, pos := "sponge.go:63", after := #[{ on := 1, ground := Ground.data }], guard := none }) (v := ?_) rfl (by decide) (by kernel_rfl) (by kernel_rfl) (by kernel_rfl) (by kernel_rfl) (by rfl) ?_ ?_
      rotate_left
      · intro W hW; have hcW := cellU hc hW; first | (go_simp; done) | (go_simp; with_reducible rfl)
      try simp only [Act.put, List.setIfInBounds_toArray, List.set_cons_zero, List.set_cons_succ]
      refine wpE_take (i := 3) (oi := { dst := some 17, op := Op.move (Operand.tmp 1), type := 22, pos := "sponge.go:63", after := #[], guard := none }) (v := ?_) rfl (by decide) (by kernel_rfl) (by kernel_rfl) (by kernel_rfl) (by kernel_rfl) (by rfl) ?_ ?_
      rotate_left
      · intro W hW; first | (go_simp; done) | (go_simp; with_reducible rfl)
      try simp only [Act.put, List.setIfInBounds_toArray, List.set_cons_zero, List.set_cons_succ]
      refine wpE_take (i := 4) (oi := { dst := some 18, op := Op.move (Operand.tmp 5), type := 3, pos := "sponge.go:63", after := #[], guard := none }) (v := ?_) rfl (by decide) (by kernel_rfl) (by kernel_rfl) (by kernel_rfl) (by kernel_rfl) (by rfl) ?_ ?_
      rotate_left
      · intro W hW; first | (go_simp; done) | (go_simp; with_reducible rfl)
      try simp only [Act.put, List.setIfInBounds_toArray, List.set_cons_zero, List.set_cons_succ]
      refine wpE_take (i := 5) (oi := { dst := some 19, op := Op.binOp BinOp.mul 3 (Operand.const (Value.int IntKind.i64 8)) (Operand.tmp 18) 3, type := 3, pos := "sponge.go:63", after := #[{ on := 4, ground := Ground.data }], guard := none }) (v := ?_) rfl (by decide) (by kernel_rfl) (by kernel_rfl) (by kernel_rfl) (by kernel_rfl) (by rfl) ?_ ?_
      rotate_left
      · intro W hW; first | (go_simp; done) | (go_simp; with_reducible rfl)
      try simp only [Act.put, List.setIfInBounds_toArray, List.set_cons_zero, List.set_cons_succ]
      refine wpE_take (i := 6) (oi := { dst := some 20, op := Op.slice 22 (Operand.tmp 17) (some (Operand.tmp 19)) none none, type := 22, pos := "sponge.go:63", after := #[{ on := 3, ground := Ground.data }, { on := 5, ground := Ground.data }], guard := none }) (v := ?_) rfl (by decide) (by kernel_rfl) (by kernel_rfl) (by kernel_rfl) (by kernel_rfl) (by rfl) ?_ ?_
      rotate_left
      · intro W hW; first | (go_simp; done) | (go_simp; with_reducible rfl)
      try simp only [Act.put, List.setIfInBounds_toArray, List.set_cons_zero, List.set_cons_succ]
      refine wpE_do (i := 7) (o := { dst := some 21, op := Op.call { callee := Callee.value (Operand.func 68), args := #[Operand.tmp 20], argTypes := #[22] }, type := 65, pos := "sponge.go:63", after := #[{ on := 6, ground := Ground.data }], guard := none }) (by kernel_rfl) rfl (by rfl) fun K hK => ?_
      go_simp
      refine (load_any _ _ _ hR1.drew).mono ?_
      rintro e w' ⟨rfl, rfl⟩
      refine hK.out _ _ (Below.refl _ _) ?_
      clear hK K
      try simp only [Act.put, List.setIfInBounds_toArray, List.set_cons_zero, List.set_cons_succ]
      refine wpE_take (i := 8) (oi := { dst := some 22, op := Op.binOp BinOp.xor 65 (Operand.tmp 16) (Operand.tmp 21) 65, type := 65, pos := "sponge.go:63", after := #[{ on := 2, ground := Ground.data }, { on := 7, ground := Ground.data }], guard := none }) (v := ?_) rfl (by decide) (by kernel_rfl) (by kernel_rfl) (by kernel_rfl) (by kernel_rfl) (by rfl) ?_ ?_
      rotate_left
      · intro W hW; first | (go_simp; done) | (go_simp; with_reducible rfl)
      try simp only [Act.put, List.setIfInBounds_toArray, List.set_cons_zero, List.set_cons_succ]
      refine wpE_take (i := 9) (oi := { dst := some 23, op := Op.indexAddr 66 (Operand.tmp 2) (Operand.tmp 14), type := 0, pos := "sponge.go:63", after := #[{ on := 0, ground := Ground.data }, { on := 0, ground := Ground.phase }, { on := 1, ground := Ground.phase }, { on := 2, ground := Ground.phase }, { on := 3, ground := Ground.phase }, { on := 4, ground := Ground.phase }, { on := 5, ground := Ground.phase }, { on := 6, ground := Ground.phase }, { on := 7, ground := Ground.phase }, { on := 8, ground := Ground.phase }], guard := none }) (v := ?_) rfl (by decide) (by kernel_rfl) (by kernel_rfl) (by kernel_rfl) (by kernel_rfl) (by rfl) ?_ ?_
      rotate_left
      · intro W hW; first | (go_simp; done) | (go_simp; with_reducible rfl)
      try simp only [Act.put, List.setIfInBounds_toArray, List.set_cons_zero, List.set_cons_succ]
      refine wpE_last (o := { dst := none, op := Op.store 65 (Operand.tmp 23) (Operand.tmp 22), type := 0, pos := "sponge.go:63", after := #[{ on := 9, ground := Ground.data }, { on := 8, ground := Ground.data }, { on := 7, ground := Ground.chain }, { on := 0, ground := Ground.phase }, { on := 1, ground := Ground.phase }, { on := 2, ground := Ground.phase }, { on := 3, ground := Ground.phase }, { on := 4, ground := Ground.phase }, { on := 5, ground := Ground.phase }, { on := 6, ground := Ground.phase }, { on := 7, ground := Ground.phase }, { on := 8, ground := Ground.phase }], guard := none }) (by kernel_rfl) (by kernel_rfl) rfl (by rfl) fun K hK => ?_
      go_simp
      refine hK.out _ _ ?_
      clear hK K
      try simp only [Act.put, List.setIfInBounds_toArray, List.set_cons_zero, List.set_cons_succ]
      rw [HLn.out, HX.out]
      have hI3 := (HS.out _ rfl).drew
      go_wp2
      go_roundw
      case rel => exact ⟨j + 1, by omega, by go_num, hI3⟩
      case measure => simp [intOf]; omega
    · have hd0 : decide ((j : Int) < (n : Int)) = false := decide_eq_false (by omega)
      have hj0 : (n : Int) ≤ j := by omega
      have r1 := hI2.a
      have e1 : stL (upQ f (fun k => f k ^^^ xbl (fun k => l.getD k 0) l.length k) j) = stL (fun k => f k ^^^ xbl (fun k => l.getD k 0) l.length k) := stL_congr fun i hi => by
        unfold upQ
        split
        · rfl
        · rw [xbl_none _ _ _ (by omega), Nat.xor_zero]
      rw [e1] at r1
      go_wp2_with (refine wpList_load_row rfl 66 _ rfl rfl r1 _ Tryd.underlying66 rfl (arrInfo _) ?_)
      have hlx : ∀ i, (fun k => f k ^^^ xbl (fun k => l.getD k 0) l.length k) i < 18446744073709551616 := fun i => xor_lt64 (HF.out i) (xbl_lt _ _ _)
      refine (kF_any _ _ hlx rfl _ hI2.t).mono ?_
      rintro e w2 ⟨rfl, hB⟩
      have r2 := (hI2.kept hB).r
      have hb2 := (hI2.kept hB).b
      rw [arrV_F _ hlx]
      clear r1 hI2 hB e1
      go_wp2_with (refine wpList_store_row rfl 66 _ _ rfl (stL (rdsF (fun k => f k ^^^ xbl (fun k => l.getD k 0) l.length k) 24)) rfl rfl r2 (by simp [stL_length]) (arrInfo _) ?_; intro w3 r3 hw)
      refine bodyPost_row (p := 4) (ty := 66) rfl rfl rfl r3 Tryd.underlying66 rfl (arrInfo _) ?_
      exact ⟨rfl, hw.below _ _ (by omega) hb2⟩
end Go.Proofs.YtlcnepnappfjeaaDoor
