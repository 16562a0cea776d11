/- What functions of the program, or of the reference, answer: contracts; several texts in one. -/
import Derived.Test.YtmhbjaampobcbaaGreatDoorKc
import Derived.Test.YtmhbjaampobcbaaGreatDoorWords
import Derived.Test.YtmhbjaampobcbaaGreatDoorKec
import Derived.Test.YtmhbjaampobcbaaGreatDoorBase
import Derived.Test.YtmhbjaampobcbaaGreatDoorRfb

namespace Go.Proofs.YtmhbjaampobcbaaGreatDoor
open Go.ChangeShapes Go.WideShapes Go.ChangeAt Go.RowKit
set_option linter.unusedSimpArgs false
set_option linter.unusedVariables false

theorem byF_shr (f : Nat → Nat) (n : Nat) : ((f (n / 8) : Nat) : Int) / 2 ^ (8 * (n % 8)) % 256 = ((byF f n).toNat : Int) := stB_shr (f (n / 8)) (n % 8)

set_option maxHeartbeats 400000 in
theorem byteAt_any (A : Array Value) (f : Nat → Nat) (hf : ∀ i, f i < 18446744073709551616) (hA : A = ((stL f).map (Value.int .u64)).toArray) (n : Nat) (hn : n < 200) (w : World) :
  Calls Tryz.prog 93 #[.agg A, .int .i64 (n : Int)] w fun e w' => e = .returned (.int .u8 ((byF f n).toNat : Int)) ∧ Below w.heap.size w w' := by
 have HA : Hid _ := hA
 have hq := hf (n / 8)
 clear hA hf
 obtain ⟨d, hd⟩ : ∃ d : Nat, d = n / 8 := ⟨_, rfl⟩
 obtain ⟨m, hm⟩ : ∃ m : Nat, m = n % 8 := ⟨_, rfl⟩
 have td : (n : Int).tdiv 8 = (d : Int) := by rw [hd, Int.tdiv_eq_ediv_of_nonneg (by omega)]; omega
 have tm : (n : Int).tmod 8 = (m : Int) := by rw [hm, Int.tmod_eq_emod_of_nonneg (by omega)]; omega
 have bd : (d : Int) < 25 := by omega
 have bm : (m : Int) < 8 := by omega
 have w8 : IntKind.i64.wrap (8 * (m : Int)) = 8 * (m : Int) := IntWalk.i64_in _ (by omega)
 have n8 : (8 * (m : Int)).toNat = 8 * m := by omega
 have HE : Hid _ := byF_shr f n
 rw [← hm] at HE
 rw [← hd] at HE hq
 have r0 : RowAt .u64 71 w.heap.size 25 (stL f) (w.alloc (.cells A 71)) := RowAt.fresh (stL f) HA.out rfl (stL_length f).symm (stL_ne f) max25
 have hc := r0.cell (j := d) (by rw [stL_length]; omega)
 rw [stL_get _ _ (by omega)] at hc
 have hb : Below w.heap.size w (w.alloc (.cells A 71)) := growB _
 generalize f d = q at hc HE hq
 clear r0 HA hd hm
 go_enter Tryz.func93, Tryz.ntmps93
 go_wp2
 go_ret
 exact ⟨retI (by first | exact HE.out | simpa using HE.out), hb⟩

theorem New.of_fill {e : TypeId} {w wb : World} {B n : Nat} {f : Nat → UInt8} {wr : World} (h : Fill e wb B n f n wr) (hb : Below w.heap.size w wb) : New e w (.slice (some ⟨B, 0, none⟩) n n) ((List.range n).map f) wr := h.done.from hb
theorem Fill.kept {e : TypeId} {w : World} {B n : Nat} {f : Nat → UInt8} {k : Nat} {wr w2 : World} (h : Fill e w B n f k wr) (hb : Below wr.heap.size wr w2) : Fill e w B n f k w2 := ⟨ownsRow_below h.1 hb, h.2.trans (hb.mono h.2.size)⟩

set_option maxHeartbeats 400000 in
theorem first_any (A : Array Value) (f : Nat → Nat) (hf : ∀ i, f i < 18446744073709551616) (hA : A = ((stL f).map (Value.int .u64)).toArray) (n : Nat) (hn : n ≤ 200) (w : World) :
  Calls Tryz.prog 48 #[.agg A, .int .i64 (n : Int)] w fun e w' => ∃ v, e = .returned v ∧ New 5 w v (bsP f n) w' := by
 obtain ⟨i, hi, hz0, hz1, hz2⟩ := info_parts info5
 have HA : Hid _ := hA
 have HF : Hid (∀ i, f i < 18446744073709551616) := hf
 clear hA hf
 have r0 : RowAt .u64 71 w.heap.size 25 (stL f) (w.alloc (.cells A 71)) := RowAt.fresh (stL f) HA.out rfl (stL_length f).symm (stL_ne f) max25
 have hb : Below w.heap.size w (w.alloc (.cells A 71)) := growB _
 go_enter Tryz.func48, Tryz.ntmps48
 go_wp2_with (at_make; go_must (refine wpList_make_full _ rfl _ _ 22 rfl (w.heap.size + 1) 5 i _ 1 Tryz.underlying22 hi hz0 hz1 _ _ _ _ n rfl rfl (by omega) (by omega) (by rw [hz2]; omega) (by unfold maxLen; omega) (by simp) ?_))
 intro w1 hown hgr
 have hF : Fill 5 (w.alloc (.cells A 71)) (w.heap.size + 1) n (byF f) 0 w1 := by
  have h1 : (w.alloc (.cells A 71)).heap.size = w.heap.size + 1 := by simp
  have := Fill.start (w := w.alloc (.cells A 71)) (byF f) (by rw [h1]; exact hown) hgr
  rwa [h1] at this
 clear hown hgr
 generalize w.alloc (.cells A 71) = wb at hF r0 hb
 go_wp2
 go_loopw [10] (fun i wr => ∃ j : Nat, j ≤ n ∧ i = .int .i64 j ∧ Fill 5 wb (w.heap.size + 1) n (byF f) j wr) (fun i _ => n - (intOf i).toNat)
 case atStart => exact ⟨0, Nat.zero_le _, rfl, hF⟩
 case round =>
  obtain ⟨j, hj, rfl, hFj⟩ := hrel
  clear hF
  by_cases hlt : j < n
  ·have hdt : decide ((j : Int) < (n : Int)) = true := decide_eq_true (by omega)
   have hjI : (j : Int) < n := by omega
   have r1 := r0.kept (hFj.2)
   go_wp2_with (refine wpList_load_row rfl 71 _ rfl rfl r1 _ Tryz.underlying71 rfl (arrInfo _) ?_)
   refine (byteAt_any _ f HF.out rfl j (by omega) _).mono ?_
   rintro e w2 ⟨rfl, hB⟩
   have hF2 := hFj.kept hB
   obtain ⟨hcj, hfj⟩ := hF2.cell hlt
   clear r1 hB hFj
   go_wp2
   go_roundw
   case rel => exact ⟨j + 1, by omega, by go_num, hF2.step rfl⟩
   case measure => simp [intOf]; omega
  ·have hje : j = n := by omega
   subst hje
   go_wp2
   go_ret
   exact ⟨_, rfl, New.of_fill hFj hb⟩
theorem leN_noughts : ∀ n, leN (List.replicate n 0) = 0
 | 0 => rfl
 | n + 1 => by rw [List.replicate_succ, leN_cons, leN_noughts n]; rfl
theorem leN_pad (z : Nat) : ∀ l : List UInt8, leN (l ++ List.replicate z 0) = leN l
 | [] => by simpa [leN] using leN_noughts z
 | x :: xs => by rw [List.cons_append, leN_cons, leN_cons, leN_pad z xs]
theorem lane_any (l : List UInt8) (j : Nat) : leN (((l.drop (8 * j)).take (l.length - 8 * j)).take 8) = xbl (fun k => l.getD k 0) l.length j := by
 unfold xbl
 have e : (List.range 8).map (fun t => if 8 * j + t < l.length then l.getD (8 * j + t) 0 else 0) = (l.drop (8 * j)).take 8 ++ List.replicate (8 - (l.length - 8 * j)) 0 := by
  refine List.ext_getElem (by simp; omega) fun t h1 h2 => ?_
  have ht : t < 8 := by simpa using h1
  by_cases h : 8 * j + t < l.length
  ·rw [List.getElem_append_left (by simp; omega)]
   simp [h]
  ·rw [List.getElem_append_right (by simp; omega)]
   simp [h]
 rw [e, leN_pad, show (l.drop (8 * j)).take (l.length - 8 * j) = l.drop (8 * j) from List.take_of_length_le (by simp)]
theorem xbl_none (blk : Nat → UInt8) (r j : Nat) (h : r ≤ 8 * j) : xbl blk r j = 0 := by
 have e : (List.range 8).map (fun t => if 8 * j + t < r then blk (8 * j + t) else 0) = List.replicate 8 0 := by
  refine List.ext_getElem (by simp) fun t h1 h2 => ?_
  simp only [List.getElem_map, List.getElem_range, List.getElem_replicate]
  rw [if_neg (by omega)]
 unfold xbl
 rw [e, leN_noughts]
theorem arrV_congr {f g : Nat → Nat} (h : ∀ i, i < 25 → f i = g i) : arrV f = arrV g := by
 show Value.agg _ = Value.agg _
 rw [stL_congr h]
theorem arrV_F (f : Nat → Nat) (hf : ∀ i, f i < 18446744073709551616) : arrV (rdsL f 24) = arrV (rdsF f 24) := arrV_congr fun i hi => rdsL_eq f hf 24 (Nat.le_refl _) i hi

set_option maxRecDepth 100000 in
set_option maxHeartbeats 1000000 in
theorem take_any (A : Array Value) (f : Nat → Nat) (hf : ∀ i, f i < 18446744073709551616) (hA : A = ((stL f).map (Value.int .u64)).toArray) (vb : Value) (l : List UInt8) (hl : l.length ≤ 200) (w : World) (hr : Rd w vb l) (ht : Tabs w) :
  Calls Tryz.prog 94 #[.agg A, vb] w fun e w' => e = .returned (arrV (tkF f (fun k => l.getD k 0) l.length)) ∧ Below w.heap.size w w' := by
 have HA : Hid _ := hA
 have HF : Hid (∀ i, f i < 18446744073709551616) := hf
 obtain ⟨a, cap, rfl, h2, h3, h4, -⟩ := id hr
 have HR : Hid (Rd w (.slice a l.length cap) l) := hr
 clear hA hf hr
 obtain ⟨n, hn⟩ : ∃ n : Nat, n = (l.length + 7) / 8 := ⟨_, rfl⟩
 have q1 : IntKind.i64.wrap ((l.length : Int) + 8) = (l.length : Int) + 8 := IntWalk.i64_in _ (by omega)
 have q2 : IntKind.i64.wrap ((l.length : Int) + 8 - 1) = (l.length : Int) + 8 - 1 := IntWalk.i64_in _ (by omega)
 have q3 : ((l.length : Int) + 8 - 1).tdiv 8 = (n : Int) := by rw [Int.tdiv_eq_ediv_of_nonneg (by omega)]; omega
 have q4 : IntKind.i64.wrap (n : Int) = (n : Int) := IntWalk.i64_in _ (by omega)
 go_enter Tryz.func94, Tryz.ntmps94
 go_wp2
 rw [HA.out]
 obtain ⟨W, hW, hI, hs⟩ := two_rows f w _ zeros25 ht
 rw [hW]
 clear hW ht q1 q2 q3 q4
 go_loopw [11] (fun i wr => ∃ j : Nat, j ≤ n ∧ i = .int .i64 j ∧ KI w (upQ f (fun k => f k ^^^ xbl (fun k => l.getD k 0) l.length k) j) wr) (fun i _ => n - (intOf i).toNat)
 case atStart => exact ⟨0, by omega, rfl, by have e := upQ_zero f (fun k => f k ^^^ xbl (fun k => l.getD k 0) l.length k); exact ⟨e ▸ hI.a, hI.r, hI.b, hI.t, hI.two⟩⟩
 case round =>
  obtain ⟨j, hj, rfl, hI2⟩ := hrel
  clear hI hs
  by_cases hlt : j < n
  ·have hd : decide ((j : Int) < (n : Int)) = true := decide_eq_true (by omega)
   have hjn : (j : Int) < n := by omega
   have hjI : (j : Int) < 25 := by omega
   have w8 : IntKind.i64.wrap (8 * (j : Int)) = 8 * (j : Int) := IntWalk.i64_in _ (by omega)
   have n8 : (8 * (j : Int)).toNat = 8 * j := by omega
   have hle : 8 * (j : Int) ≤ (l.length : Int) := by omega
   have hge : (0 : Int) ≤ 8 * (j : Int) := by omega
   have hcn : ¬ cap = 8 * j := by omega
   have hc := hI2.a.cell (j := j) (by rw [stL_length]; omega)
   have hcf := hI2.a.free j
   rw [stL_get _ j (by omega), upQ_get] at hc
   have hq := HF.out j
   obtain ⟨b, off, rfl⟩ : ∃ b off, a = some ⟨b, off, none⟩ := by
    obtain ⟨b, off, cp, e1, _⟩ := HR.out.cellAt (i := 0) (by omega)
    simp only [Value.slice.injEq] at e1
    exact ⟨b, off, e1.1⟩
   have hR1 := (HR.out.kept hI2.b).sub (8 * j) l.length (by omega) (Nat.le_refl _)
   have HLn : Hid _ := lane_any l j
   have HS : Hid (∀ x : Int, x = ((f j ^^^ xbl (fun k => l.getD k 0) l.length j : Nat) : Int) → KI w (upQ f (fun k => f k ^^^ xbl (fun k => l.getD k 0) l.length k) (j + 1)) (wr.setCell ⟨w.heap.size, j, none⟩ (.int .u64 x))) := by
    intro x hx
    exact hI2.set j x (by rw [hx]; exact upQ_set f (fun k => f k ^^^ xbl (fun k => l.getD k 0) l.length k) j)
   have HX : Hid _ := xorI (f j) (xbl (fun k => l.getD k 0) l.length j) hq (xbl_lt _ _ _)
   generalize f j = q0 at hc hq HX HS
   clear hI2
   go_wp2_with fail
   refine wpE_begin 10 (by kernel_rfl) ?_
   refine wpE_t (i := 0) (oi := ⟨some 14, .move (.tmp 5), 3, "sponge.go:63", #[], none⟩) (v := ?_) ?_ ?_
   rotate_left
   ·intro W hW; go_simp <;> with_reducible rfl
   try simp only [Act.put, putA, putB, putC]
   refine wpE_t (i := 1) (oi := ⟨some 15, .indexAddr 71 (.tmp 2) (.tmp 14), 0, "sponge.go:63", #[⟨0, .data⟩], none⟩) (v := ?_) ?_ ?_
   rotate_left
   ·intro W hW; go_simp <;> with_reducible rfl
   try simp only [Act.put, putA, putB, putC]
   refine wpE_t (i := 2) (oi := ⟨some 16, .load 70 (.tmp 15), 70, "sponge.go:63", #[⟨1, .data⟩], none⟩) (v := ?_) ?_ ?_
   rotate_left
   ·intro W hW; have hcW := cellU hc hW; go_simp <;> with_reducible rfl
   try simp only [Act.put, putA, putB, putC]
   refine wpE_t (i := 3) (oi := ⟨some 17, .move (.tmp 1), 22, "sponge.go:63", #[], none⟩) (v := ?_) ?_ ?_
   rotate_left
   ·intro W hW; go_simp <;> with_reducible rfl
   try simp only [Act.put, putA, putB, putC]
   refine wpE_t (i := 4) (oi := ⟨some 18, .move (.tmp 5), 3, "sponge.go:63", #[], none⟩) (v := ?_) ?_ ?_
   rotate_left
   ·intro W hW; go_simp <;> with_reducible rfl
   try simp only [Act.put, putA, putB, putC]
   refine wpE_t (i := 5) (oi := ⟨some 19, .binOp .mul 3 (.const (.int .i64 8)) (.tmp 18) 3, 3, "sponge.go:63", #[⟨4, .data⟩], none⟩) (v := ?_) ?_ ?_
   rotate_left
   ·intro W hW; go_simp <;> with_reducible rfl
   try simp only [Act.put, putA, putB, putC]
   refine wpE_t (i := 6) (oi := ⟨some 20, .slice 22 (.tmp 17) (some (.tmp 19)) none none, 22, "sponge.go:63", #[⟨3, .data⟩, ⟨5, .data⟩], none⟩) (v := ?_) ?_ ?_
   rotate_left
   ·intro W hW; go_simp <;> with_reducible rfl
   try simp only [Act.put, putA, putB, putC]
   refine wpE_do (i := 7) (o := ⟨some 21, .call { callee := .value (.func 132), args := #[.tmp 20], argTypes := #[22] }, 70, "sponge.go:63", #[⟨6, .data⟩], none⟩) (by kernel_rfl) rfl (by rfl) fun K hK => ?_
   go_simp
   refine (load_any _ _ _ hR1.drew).mono ?_
   rintro e w' ⟨rfl, rfl⟩
   refine hK.out _ _ (Below.refl _ _) ?_
   clear hK K
   try simp only [Act.put, putA, putB, putC]
   refine wpE_t (i := 8) (oi := ⟨some 22, .binOp .xor 70 (.tmp 16) (.tmp 21) 70, 70, "sponge.go:63", #[⟨2, .data⟩, ⟨7, .data⟩], none⟩) (v := ?_) ?_ ?_
   rotate_left
   ·intro W hW; go_simp <;> with_reducible rfl
   try simp only [Act.put, putA, putB, putC]
   refine wpE_t (i := 9) (oi := ⟨some 23, .indexAddr 71 (.tmp 2) (.tmp 14), 0, "sponge.go:63", #[⟨0, .data⟩, ⟨0, .phase⟩, ⟨1, .phase⟩, ⟨2, .phase⟩, ⟨3, .phase⟩, ⟨4, .phase⟩, ⟨5, .phase⟩, ⟨6, .phase⟩, ⟨7, .phase⟩, ⟨8, .phase⟩], none⟩) (v := ?_) ?_ ?_
   rotate_left
   ·intro W hW; go_simp <;> with_reducible rfl
   try simp only [Act.put, putA, putB, putC]
   refine wpE_last (o := ⟨none, .store 70 (.tmp 23) (.tmp 22), 0, "sponge.go:63", #[⟨9, .data⟩, ⟨8, .data⟩, ⟨7, .chain⟩, ⟨0, .phase⟩, ⟨1, .phase⟩, ⟨2, .phase⟩, ⟨3, .phase⟩, ⟨4, .phase⟩, ⟨5, .phase⟩, ⟨6, .phase⟩, ⟨7, .phase⟩, ⟨8, .phase⟩], none⟩) (by kernel_rfl) (by kernel_rfl) rfl (by rfl) fun K hK => ?_
   go_simp
   refine hK.out _ _ ?_
   clear hK K
   try simp only [Act.put, putA, putB, putC]
   rw [HLn.out, HX.out]
   have hI3 := (HS.out _ rfl).drew
   go_wp2
   go_roundw
   case rel => exact ⟨j + 1, by omega, by go_num, hI3⟩
   case measure => simp [intOf]; omega
  ·have hd0 : decide ((j : Int) < (n : Int)) = false := decide_eq_false (by omega)
   have hj0 : (n : Int) ≤ j := by omega
   have r1 := hI2.a
   have e1 : stL (upQ f (fun k => f k ^^^ xbl (fun k => l.getD k 0) l.length k) j) = stL (fun k => f k ^^^ xbl (fun k => l.getD k 0) l.length k) := stL_congr fun i hi => by
    unfold upQ
    split
    ·rfl
    ·rw [xbl_none _ _ _ (by omega), Nat.xor_zero]
   rw [e1] at r1
   go_wp2_with (refine wpList_load_row rfl 71 _ rfl rfl r1 _ Tryz.underlying71 rfl (arrInfo _) ?_)
   have hlx : ∀ i, (fun k => f k ^^^ xbl (fun k => l.getD k 0) l.length k) i < 18446744073709551616 := fun i => xor_lt64 (HF.out i) (xbl_lt _ _ _)
   refine (kF_any _ _ hlx rfl _ hI2.t).mono ?_
   rintro e w2 ⟨rfl, hB⟩
   have r2 := (hI2.kept hB).r
   have hb2 := (hI2.kept hB).b
   rw [arrV_F _ hlx]
   clear r1 hI2 hB e1
   go_wp2_with (refine wpList_store_row rfl 71 _ _ rfl (stL (rdsF (fun k => f k ^^^ xbl (fun k => l.getD k 0) l.length k) 24)) rfl rfl r2 (by simp [stL_length]) (arrInfo _) ?_; intro w3 r3 hw)
   refine bodyPost_row (p := 4) (ty := 71) rfl rfl rfl r3 Tryz.underlying71 rfl (arrInfo _) ?_
   exact ⟨rfl, hw.below _ _ (by omega) hb2⟩
def lbF (r : Nat) (s : UInt8) (l : List UInt8) (k : Nat) : UInt8 := (if k < l.length then l.getD k 0 else if k = l.length then s else 0) ^^^ (if k = r - 1 then 128 else 0)
def lbL (r : Nat) (s : UInt8) (l : List UInt8) : List UInt8 := (List.range r).map (lbF r s l)
theorem lbL_length (r : Nat) (s : UInt8) (l : List UInt8) : (lbL r s l).length = r := by simp [lbL]
theorem lb_step (r : Nat) (s : UInt8) (l : List UInt8) (hl : l.length < r) (k : Nat) (hk : k < r) : ((l ++ List.replicate (r - l.length) (0 : UInt8)).set l.length s).getD k 0 = if k < l.length then l.getD k 0 else if k = l.length then s else 0 := by
 rw [List.getD_eq_getElem?_getD, List.getElem?_set]
 by_cases h : k < l.length
 ·rw [if_pos h, if_neg (by omega), List.getElem?_append_left h, List.getD_eq_getElem?_getD]
 ·rw [if_neg h]
  by_cases h2 : k = l.length
  ·subst h2
   rw [if_pos rfl, if_pos (by simp; omega), if_pos rfl]
   rfl
  ·rw [if_neg h2, if_neg (Ne.symm h2), List.getElem?_append_right (by omega), List.getElem?_replicate, if_pos (by omega)]
   rfl
theorem lb_done (r : Nat) (s : UInt8) (l : List UInt8) (hl : l.length < r) :
  ((l ++ List.replicate (r - l.length) (0 : UInt8)).set l.length s).set (r - 1) (((l ++ List.replicate (r - l.length) (0 : UInt8)).set l.length s).getD (r - 1) 0 ^^^ 128) = lbL r s l := by
 have hlen : ((l ++ List.replicate (r - l.length) (0 : UInt8)).set l.length s).length = r := by simp; omega
 refine List.ext_getElem (by rw [List.length_set, hlen, lbL_length]) fun k h1 h2 => ?_
 have hk : k < r := by rw [lbL_length] at h2; exact h2
 have e1 := lb_step r s l hl k hk
 have e3 : (lbL r s l)[k] = lbF r s l k := by simp [lbL]
 rw [e3, List.getElem_set]
 unfold lbF
 by_cases h : r - 1 = k
 ·subst h
  rw [if_pos rfl, if_pos rfl, e1]
 ·have e2 : ((l ++ List.replicate (r - l.length) (0 : UInt8)).set l.length s)[k]'(by rw [hlen]; exact hk) = ((l ++ List.replicate (r - l.length) (0 : UInt8)).set l.length s).getD k 0 := by
   rw [List.getD_eq_getElem?_getD, List.getElem?_eq_getElem (by rw [hlen]; exact hk)]
   rfl
  rw [if_neg h, if_neg (Ne.symm h), ← e1, UInt8.xor_zero]
  exact e2

set_option maxHeartbeats 1000000 in
theorem lastBlock_any (r : Nat) (h2 : r ≤ 200) (s : UInt8) (S : Int) (hS : S = (s.toNat : Int)) (vb : Value) (l : List UInt8) (hl : l.length < r) (w : World) (hr : Rd w vb l) :
  Calls Tryz.prog 95 #[.int .i64 (r : Int), .int .u8 S, vb] w fun e w' => ∃ v, e = .returned v ∧ New 5 w v (lbL r s l) w' := by
 subst hS
 obtain ⟨i, hi, hz0, hz1, hz2⟩ := info_parts info5
 have hsz : (Tryz.prog.info? 5).map (·.size) = some 1 := by kernel_rfl
 have HD : Hid _ := lb_done r s l hl
 obtain ⟨a, cap, rfl, h3, h4, h5, -⟩ := id hr
 go_enter Tryz.func95, Tryz.ntmps95
 go_wp2_with (at_make; go_must (refine wpList_make_full _ rfl _ _ 22 rfl w.heap.size 5 i _ 1 Tryz.underlying22 hi hz0 hz1 _ _ _ _ r rfl rfl (by omega) (by omega) (by rw [hz2]; omega) (by unfold maxLen; omega) (Nat.le_refl _) ?_))
 intro w1 hown hgr
 have hN := New.made hown hgr
 have hr1 := hr.kept hN.2
 clear hown hgr hr
 go_wp2_with (refine wpList_copy_new (w := w) rfl _ _ 22 rfl 5 Tryz.underlying22 hsz _ _ rfl hN _ _ rfl hr1 (by simp; omega) (by intro h; simp at h; omega) ?_)
 intro w2 hN2
 clear hN hr1
 have hlen2 : r = (l ++ List.replicate (r - l.length) (0 : UInt8)).length := by simp; omega
 obtain ⟨g, eg, hg, -, hc, hfz, hset⟩ := own_at hlen2 hN2.1 (j := l.length) hl
 simp only [Option.some.injEq, Addr.mk.injEq, and_true] at eg
 subst eg
 have hN3 : New 5 w (.slice (some ⟨w.heap.size, 0, none⟩) r r) ((l ++ List.replicate (r - l.length) (0 : UInt8)).set l.length s) (w2.setCell ⟨w.heap.size, l.length, none⟩ (.int .u8 (s.toNat : Int))) := ⟨hset s _ rfl, hN2.2.setCell (Nat.le_refl _) _⟩
 have hlI : (l.length : Int) < r := by omega
 obtain ⟨p, hp⟩ : ∃ p : Nat, p = r - 1 := ⟨_, rfl⟩
 have wp1 : IntKind.i64.wrap ((r : Int) - 1) = (p : Int) := by rw [IntWalk.i64_in _ (by omega)]; omega
 have hpI : (p : Int) < r := by omega
 rw [← hp] at HD
 have hlen3 : r = ((l ++ List.replicate (r - l.length) (0 : UInt8)).set l.length s).length := by rw [List.length_set]; exact hlen2
 obtain ⟨g, eg, hg3, -, hc3, hfz3, hset3⟩ := own_at hlen3 hN3.1 (j := p) (by omega)
 simp only [Option.some.injEq, Addr.mk.injEq, and_true] at eg
 subst eg
 have hN4 := hset3 _ _ (byte_xor (((l ++ List.replicate (r - l.length) (0 : UInt8)).set l.length s).getD p 0) 128)
 rw [HD.out] at hN4
 have hb4 := hN3.2.setCell (p := ⟨w.heap.size, p, none⟩) (Nat.le_refl _) (.int .u8 (bits .xor .u8 (((((l ++ List.replicate (r - l.length) (0 : UInt8)).set l.length s).getD p 0).toNat : Nat) : Int) (((128 : UInt8).toNat : Nat) : Int)))
 generalize ((l ++ List.replicate (r - l.length) (0 : UInt8)).set l.length s).getD p 0 = x at hc3 hN4 hb4
 have HN : Hid (New 5 w (.slice (some ⟨w.heap.size, 0, none⟩) r r) (lbL r s l) ((w2.setCell ⟨w.heap.size, l.length, none⟩ (.int .u8 (s.toNat : Int))).setCell ⟨w.heap.size, p, none⟩ (.int .u8 (bits .xor .u8 ((x.toNat : Nat) : Int) (((128 : UInt8).toNat : Nat) : Int))))) := ⟨hN4, hb4⟩
 clear HD hset hset3 hN2 hN3 hN4 hb4 hlen2 hlen3 hp
 go_wp2
 go_ret
 exact ⟨_, rfl, HN.out⟩

structure AI (w : World) (F : Nat → Nat) (wr : World) : Prop where
 a : RowAt .u64 71 w.heap.size 25 (stL fun _ => 0) wr
 r : RowAt .u64 71 (w.heap.size + 1) 25 (stL F) wr
 b : Below w.heap.size w wr
 t : Tabs wr
 two : 2 < w.heap.size
theorem AI.drew {w wr : World} {F : Nat → Nat} (h : AI w F wr) : AI w F wr.drew := ⟨h.a.drew, h.r.drew, h.b.drew, h.t.kept (Below.refl _ _).drew, h.two⟩
theorem AI.kept {w wr w2 : World} {F : Nat → Nat} (h : AI w F wr) (hb : Below wr.heap.size wr w2) : AI w F w2 := ⟨h.a.kept hb, h.r.kept hb, stepB h.b hb, h.t.kept hb, h.two⟩
theorem AI.whole {w wr w2 : World} {F G : Nat → Nat} (h : AI w F wr) (hr : RowAt .u64 71 (w.heap.size + 1) 25 (stL G) w2) (hw : Wrote (w.heap.size + 1) wr w2) : AI w G w2 :=
 ⟨h.a.wrote hw (by omega), hr, hw.below _ _ (by omega) h.b, h.t.wrote hw (by have := h.two; omega), h.two⟩

theorem Rd.rest {w : World} {b off n cap : Nat} {l : List UInt8} (h : Rd w (.slice (some ⟨b, off, none⟩) n cap) l) (r : Nat) (hr : r ≤ n) :
  Rd w (.slice (if cap = r then some ⟨b, off, none⟩ else some ⟨b, off + r, none⟩) (n - r) (cap - r)) (l.drop r) := by
 have hn : n = l.length := by
  obtain ⟨a, c, e, _⟩ := id h
  simp only [Value.slice.injEq] at e
  exact e.2.1
 by_cases hc : cap = r
 ·rw [if_pos hc]
  have hcap : n ≤ cap := by
   obtain ⟨a, c, e, h2, _⟩ := id h
   simp only [Value.slice.injEq] at e
   omega
  have h0 : l.drop r = [] := List.drop_eq_nil_of_le (by omega)
  rw [h0, show n - r = 0 by omega, hc, Nat.sub_self]
  exact ⟨_, 0, rfl, by simp, by simp, fun _ => rfl, .inl rfl⟩
 ·rw [if_neg hc]
  have := h.sub r n hr (Nat.le_refl _)
  rwa [List.take_of_length_le (by rw [List.length_drop]; omega)] at this

theorem absorb_zero (R S : Int) (h : ¬ (1 ≤ R ∧ R ≤ 200)) (vb : Value) (w : World) :
  Calls Tryz.prog 49 #[.int .i64 R, .int .u8 S, vb] w fun e w' => e = .returned (arrV fun _ => 0) ∧ Below w.heap.size w w' := by
 have r0 : RowAt .u64 71 w.heap.size 25 (stL fun _ => 0) (w.alloc (.cells #[Value.int .u64 0, .int .u64 0, .int .u64 0, .int .u64 0, .int .u64 0, .int .u64 0, .int .u64 0, .int .u64 0, .int .u64 0, .int .u64 0, .int .u64 0, .int .u64 0, .int .u64 0, .int .u64 0, .int .u64 0, .int .u64 0, .int .u64 0, .int .u64 0, .int .u64 0, .int .u64 0, .int .u64 0, .int .u64 0, .int .u64 0, .int .u64 0, .int .u64 0] 71)) := RowAt.fresh (stL fun _ => 0) zeros25 rfl (stL_length _).symm (stL_ne _) max25
 have r1 : RowAt .u64 71 (w.heap.size + 1) 25 (stL fun _ => 0) ((w.alloc (.cells #[Value.int .u64 0, .int .u64 0, .int .u64 0, .int .u64 0, .int .u64 0, .int .u64 0, .int .u64 0, .int .u64 0, .int .u64 0, .int .u64 0, .int .u64 0, .int .u64 0, .int .u64 0, .int .u64 0, .int .u64 0, .int .u64 0, .int .u64 0, .int .u64 0, .int .u64 0, .int .u64 0, .int .u64 0, .int .u64 0, .int .u64 0, .int .u64 0, .int .u64 0] 71)).alloc (.cells #[Value.int .u64 0, .int .u64 0, .int .u64 0, .int .u64 0, .int .u64 0, .int .u64 0, .int .u64 0, .int .u64 0, .int .u64 0, .int .u64 0, .int .u64 0, .int .u64 0, .int .u64 0, .int .u64 0, .int .u64 0, .int .u64 0, .int .u64 0, .int .u64 0, .int .u64 0, .int .u64 0, .int .u64 0, .int .u64 0, .int .u64 0, .int .u64 0, .int .u64 0] 71)) := RowAt.fresh (stL fun _ => 0) zeros25 (by simp) (stL_length _).symm (stL_ne _) max25
 have hb := stepB (growB (w := w) (.cells #[Value.int .u64 0, .int .u64 0, .int .u64 0, .int .u64 0, .int .u64 0, .int .u64 0, .int .u64 0, .int .u64 0, .int .u64 0, .int .u64 0, .int .u64 0, .int .u64 0, .int .u64 0, .int .u64 0, .int .u64 0, .int .u64 0, .int .u64 0, .int .u64 0, .int .u64 0, .int .u64 0, .int .u64 0, .int .u64 0, .int .u64 0, .int .u64 0, .int .u64 0] 71)) (growB (.cells #[Value.int .u64 0, .int .u64 0, .int .u64 0, .int .u64 0, .int .u64 0, .int .u64 0, .int .u64 0, .int .u64 0, .int .u64 0, .int .u64 0, .int .u64 0, .int .u64 0, .int .u64 0, .int .u64 0, .int .u64 0, .int .u64 0, .int .u64 0, .int .u64 0, .int .u64 0, .int .u64 0, .int .u64 0, .int .u64 0, .int .u64 0, .int .u64 0, .int .u64 0] 71))
 have r2 := r0.kept (growB (.cells #[Value.int .u64 0, .int .u64 0, .int .u64 0, .int .u64 0, .int .u64 0, .int .u64 0, .int .u64 0, .int .u64 0, .int .u64 0, .int .u64 0, .int .u64 0, .int .u64 0, .int .u64 0, .int .u64 0, .int .u64 0, .int .u64 0, .int .u64 0, .int .u64 0, .int .u64 0, .int .u64 0, .int .u64 0, .int .u64 0, .int .u64 0, .int .u64 0, .int .u64 0] 71))
 have h' : (R < 1 ∧ decide (R < 1) = true) ∨ (200 < R ∧ decide (R < 1) = false ∧ decide (200 < R) = true) := by
  by_cases h1 : R < 1
  ·exact .inl ⟨h1, decide_eq_true h1⟩
  ·exact .inr ⟨by omega, decide_eq_false h1, decide_eq_true (by omega)⟩
 rcases h' with ⟨h1, d1⟩ | ⟨h1, d0, d1⟩
 all_goals
  go_enter Tryz.func49, Tryz.ntmps49
  go_wp2_with (first | refine wpList_load_row rfl 71 _ rfl rfl r1 _ Tryz.underlying71 rfl (arrInfo _) ?_ | (refine wpList_store_row rfl 71 _ _ rfl (stL fun _ => 0) rfl rfl r2 (by simp [stL_length]) (arrInfo _) ?_; intro w3 r3 hw))
  refine bodyPost_row (p := 6) (ty := 71) rfl rfl rfl r3 Tryz.underlying71 rfl (arrInfo _) ?_
  exact ⟨rfl, hw.below _ _ (Nat.le_refl _) hb⟩
theorem lb_las (r : Nat) (s : UInt8) (l : List UInt8) (hr : 0 < r) (k : Nat) (hk : k < r) : (lbL r s (l.drop (l.length / r * r))).getD k 0 = lasB r s l k := by
 have h0 := Nat.div_add_mod l.length r
 rw [Nat.mul_comm] at h0
 have e1 : (l.drop (l.length / r * r)).length = l.length % r := by simp; omega
 unfold lbL lasB
 rw [show ((List.range r).map (lbF r s (l.drop (l.length / r * r)))).getD k 0 = lbF r s (l.drop (l.length / r * r)) k by simp [hk]]
 unfold lbF
 rw [e1]
 congr 1
 by_cases h : k < l.length % r
 ·rw [if_pos h, if_pos h]
  simp
 ·rw [if_neg h, if_neg h]

theorem absorb_start (w : World) (cs : Array Value) (hcs : cs = ((stL fun _ => 0).map (Value.int .u64)).toArray) (t : Tabs w) :
  ∃ W, (w.alloc (.cells cs 71)).alloc (.cells cs 71) = W ∧ AI w (fun _ => 0) W := by
 subst hcs
 obtain ⟨W, hW, hI, hs⟩ := two_rows (fun _ => 0) w _ rfl t
 exact ⟨W, hW, ⟨hI.a, hI.r, hI.b, hI.t, hI.two⟩⟩

set_option maxRecDepth 100000 in
set_option maxHeartbeats 2000000 in
theorem absorb_at (r : Nat) (h1 : 1 ≤ r) (h2 : r ≤ 200) (s : UInt8) (S : Int) (hS : S = (s.toNat : Int)) (vb : Value) (l : List UInt8) (w : World) (hr : Rd w vb l) (ht : Tabs w) :
  Calls Tryz.prog 49 #[.int .i64 (r : Int), .int .u8 S, vb] w fun e w' => e = .returned (arrV (tkF (fuN r l (l.length / r)) (lasB r s l) r)) ∧ Below w.heap.size w w' := by
 subst hS
 obtain ⟨a, cap, rfl, h3, h4, h5, -⟩ := id hr
 have hmx := hr.len
 unfold maxLen at h4
 have HR : Hid (Rd w (.slice a l.length cap) l) := hr
 clear hr
 obtain ⟨q, hq⟩ : ∃ q : Nat, q = l.length / r := ⟨_, rfl⟩
 have hqr : q * r ≤ l.length := by rw [hq]; exact Nat.div_mul_le_self _ _
 have hqm : l.length - q * r < r := by
  have e0 := Nat.div_add_mod l.length r
  have e1 := Nat.mod_lt l.length (show 0 < r by omega)
  rw [Nat.mul_comm, ← hq] at e0
  omega
 have hq1 : q ≤ l.length := Nat.le_trans (Nat.le_mul_of_pos_right q (by omega)) hqr
 have q3 : ((l.length : Int)).tdiv (r : Int) = (q : Int) := by rw [Int.tdiv_eq_ediv_of_nonneg (by omega), hq]; rfl
 have q4 : IntKind.i64.wrap (q : Int) = (q : Int) := IntWalk.i64_in _ (by omega)
 have d1 : decide ((r : Int) < 1) = false := decide_eq_false (by omega)
 have d2 : decide ((200 : Int) < (r : Int)) = false := decide_eq_false (by omega)
 have g1 : (1 : Int) ≤ r := by omega
 have g2 : (r : Int) ≤ 200 := by omega
 have g3 : ¬ (r : Int) = 0 := by omega
 rw [← hq]
 have HQ : Hid (q = l.length / r) := hq
 clear hq
 go_enter Tryz.func49, Tryz.ntmps49
 go_wp2
 obtain ⟨W, hW, hI⟩ := absorb_start w _ zeros25 ht
 rw [hW]
 clear hW ht q3 q4 d1 d2
 go_loopw [19, 2] (fun i b wr => ∃ j : Nat, j ≤ q ∧ i = .int .i64 j ∧ Rd w b (l.drop (j * r)) ∧ AI w (fuN r l j) wr) (fun i _ _ => q - (intOf i).toNat)
 case atStart => exact ⟨0, by omega, rfl, by rw [Nat.zero_mul, List.drop_zero]; exact HR.out, hI⟩
 case round =>
  obtain ⟨j, hj, rfl, hR, hI2⟩ := hrel
  clear hI HR
  obtain ⟨a2, cap2, rfl, k2, k3, k4, -⟩ := id hR
  obtain ⟨n, hn⟩ : ∃ n : Nat, n = (l.drop (j * r)).length := ⟨_, rfl⟩
  have hjr : j * r ≤ q * r := Nat.mul_le_mul_right r hj
  have hn' : n = l.length - j * r := by rw [hn, List.length_drop]
  rw [← hn] at hR k2 ⊢
  unfold maxLen at k3
  have HN : Hid (n = (l.drop (j * r)).length) := hn
  have HN' : Hid (n = l.length - j * r) := hn'
  have hnr : n + j * r = l.length := by omega
  have HNR : Hid (n + j * r = l.length) := hnr
  clear hn hn'
  by_cases hlt : j < q
  ·have hd : decide ((j : Int) < (q : Int)) = true := decide_eq_true (by omega)
   have hjq : (j : Int) < q := by omega
   have hjr1 : (j + 1) * r ≤ q * r := Nat.mul_le_mul_right r hlt
   rw [Nat.add_mul, Nat.one_mul] at hjr1
   have hrn : r ≤ n := by omega
   clear hnr
   obtain ⟨b, off, rfl⟩ : ∃ b off, a2 = some ⟨b, off, none⟩ := by
    obtain ⟨b, off, cp, e1, _⟩ := hR.cellAt (i := 0) (by rw [← HN.out]; omega)
    simp only [Value.slice.injEq] at e1
    exact ⟨b, off, e1.1⟩
   have hT := (hR.kept hI2.b).take (n := r) hrn
   have hlen : ((l.drop (j * r)).take r).length = r := by rw [List.length_take, ← HN.out]; omega
   have HT : Hid (arrV (tkF (fuN r l j) (fun k => ((l.drop (j * r)).take r).getD k 0) ((l.drop (j * r)).take r).length) = arrV (fuN r l (j + 1))) := by
    rw [hlen]
    exact arrV_congr (tkF_congr r (fun _ _ => rfl) fun k hk => by simp [hk])
   have hP := hR.rest r hrn
   rw [List.drop_drop, show j * r + r = (j + 1) * r by rw [Nat.add_mul, Nat.one_mul]] at hP
   have HP : Hid _ := hP
   have hrc : (r : Int) ≤ cap2 := by omega
   have hrnI : (r : Int) ≤ n := by omega
   have r1 := hI2.r
   clear hR hP
   go_wp2_with fail
   refine wpE_begin 5 (by kernel_rfl) ?_
   refine wpE_t (i := 0) (oi := ⟨some 21, .load 71 (.tmp 7), 71, "sponge.go:44", #[], none⟩) (v := ?_) ?_ ?_
   rotate_left
   ·intro W hW; refine Eq.trans (exec_load_row 71 _ (by rfl) (by rfl) r1 hW _ Tryz.underlying71 rfl (arrInfo _)) ?_; with_reducible rfl
   try simp only [Act.put, putA, putB, putC]
   refine wpE_t (i := 1) (oi := ⟨some 22, .move (.tmp 2), 22, "sponge.go:44", #[], none⟩) (v := ?_) ?_ ?_
   rotate_left
   ·intro W hW; go_simp <;> with_reducible rfl
   try simp only [Act.put, putA, putB, putC]
   refine wpE_t (i := 2) (oi := ⟨some 23, .move (.tmp 0), 3, "sponge.go:44", #[], none⟩) (v := ?_) ?_ ?_
   rotate_left
   ·intro W hW; go_simp <;> with_reducible rfl
   try simp only [Act.put, putA, putB, putC]
   refine wpE_t (i := 3) (oi := ⟨some 24, .slice 22 (.tmp 22) none (some (.tmp 23)) none, 22, "sponge.go:44", #[⟨1, .data⟩, ⟨2, .data⟩], none⟩) (v := ?_) ?_ ?_
   rotate_left
   ·intro W hW; go_simp <;> with_reducible rfl
   try simp only [Act.put, putA, putB, putC]
   refine wpE_do (i := 4) (o := ⟨some 25, .call { callee := .value (.func 94), args := #[.tmp 21, .tmp 24], argTypes := #[71, 22] }, 71, "sponge.go:44", #[⟨0, .data⟩, ⟨3, .data⟩], none⟩) (by kernel_rfl) rfl (by rfl) fun K hK => ?_
   go_simp
   refine (take_any _ (fuN r l j) (fuN_lt r l j) rfl _ _ (by rw [hlen]; omega) _ hT.drew hI2.drew.t).mono ?_
   rintro e w2 ⟨rfl, hB2⟩
   refine hK.out _ _ hB2 ?_
   clear hK K
   have hI3 := hI2.drew.kept hB2
   have r3 := hI3.r
   rw [HT.out]
   try simp only [Act.put, putA, putB, putC]
   refine wpE_last (o := ⟨none, .store 71 (.tmp 7) (.tmp 25), 0, "sponge.go:44", #[⟨4, .data⟩, ⟨4, .chain⟩, ⟨0, .phase⟩, ⟨1, .phase⟩, ⟨2, .phase⟩, ⟨3, .phase⟩, ⟨4, .phase⟩], none⟩) (by kernel_rfl) (by kernel_rfl) rfl (by rfl) fun K hK => ?_
   refine wp_store_row 71 _ _ (by rfl) (stL (fuN r l (j + 1))) (by rfl) (by rfl) r3 (by simp [stL_length]) (arrInfo _) ?_
   intro w4 r4 hw4
   refine hK.out _ _ ?_
   clear hK K
   try simp only [Act.put, putA, putB, putC]
   have hI4 := hI3.whole r4 hw4
   clear r1 r3 r4 hw4 hI2 hI3 hB2 hT
   by_cases hcr : cap2 = r
   ·have hcrI : (cap2 : Int) = r := by omega
    rw [if_pos hcr, hcr, Nat.sub_self] at HP
    go_wp2
    go_roundw
    case rel => exact ⟨j + 1, by omega, by go_num, HP.out, hI4⟩
    case measure => simp [intOf]; omega
   ·rw [if_neg hcr] at HP
    go_wp2
    go_roundw
    case rel => exact ⟨j + 1, by omega, by go_num, HP.out, hI4⟩
    case measure => simp [intOf]; omega
  ·have hje : j = q := by omega
   have hd : decide ((j : Int) < (q : Int)) = false := decide_eq_false (by omega)
   have hjq : (q : Int) ≤ j := by omega
   have HJ : Hid (j = q) := hje
   have hR1 := hR.kept hI2.b
   have hln : (l.drop (j * r)).length < r := by rw [← HN.out, HN'.out, hje]; exact hqm
   have r1 := hI2.r
   clear hje hR hnr
   go_wp2_with fail
   refine wpE_begin 6 (by kernel_rfl) ?_
   refine wpE_t (i := 0) (oi := ⟨some 30, .load 71 (.tmp 7), 71, "sponge.go:47", #[], none⟩) (v := ?_) ?_ ?_
   rotate_left
   ·intro W hW; refine Eq.trans (exec_load_row 71 _ (by rfl) (by rfl) r1 hW _ Tryz.underlying71 rfl (arrInfo _)) ?_; with_reducible rfl
   try simp only [Act.put, putA, putB, putC]
   refine wpE_t (i := 1) (oi := ⟨some 31, .move (.tmp 0), 3, "sponge.go:47", #[], none⟩) (v := ?_) ?_ ?_
   rotate_left
   ·intro W hW; go_simp <;> with_reducible rfl
   try simp only [Act.put, putA, putB, putC]
   refine wpE_t (i := 2) (oi := ⟨some 32, .move (.tmp 1), 5, "sponge.go:47", #[], none⟩) (v := ?_) ?_ ?_
   rotate_left
   ·intro W hW; go_simp <;> with_reducible rfl
   try simp only [Act.put, putA, putB, putC]
   refine wpE_t (i := 3) (oi := ⟨some 33, .move (.tmp 2), 22, "sponge.go:47", #[], none⟩) (v := ?_) ?_ ?_
   rotate_left
   ·intro W hW; go_simp <;> with_reducible rfl
   try simp only [Act.put, putA, putB, putC]
   refine wpE_do (i := 4) (o := ⟨some 34, .call { callee := .value (.func 95), args := #[.tmp 31, .tmp 32, .tmp 33], argTypes := #[3, 5, 22] }, 22, "sponge.go:47", #[⟨1, .data⟩, ⟨2, .data⟩, ⟨3, .data⟩], none⟩) (by kernel_rfl) rfl (by rfl) fun K hK => ?_
   go_simp
   refine (lastBlock_any r h2 s _ rfl _ (l.drop (j * r)) hln _ hR1.drew).mono ?_
   rintro e w2 ⟨v2, rfl, hN2⟩
   refine hK.out _ _ hN2.2 ?_
   clear hK K
   have hI3 := hI2.drew.kept hN2.2
   have hR2 := hN2.rd
   try simp only [Act.put, putA, putB, putC]
   refine wpE_do (i := 5) (o := ⟨some 35, .call { callee := .value (.func 94), args := #[.tmp 30, .tmp 34], argTypes := #[71, 22] }, 71, "sponge.go:47", #[⟨0, .data⟩, ⟨4, .data⟩, ⟨4, .chain⟩], none⟩) (by kernel_rfl) rfl (by rfl) fun K hK => ?_
   go_simp
   refine (take_any _ (fuN r l j) (fuN_lt r l j) rfl _ _ (by rw [lbL_length]; exact h2) _ hR2 hI3.t).mono ?_
   rintro e w3 ⟨rfl, hB3⟩
   refine hK.out _ _ hB3 ?_
   clear hK K
   have hI4 := hI3.kept hB3
   have r3 := hI4.a
   try simp only [Act.put, putA, putB, putC]
   refine wpE_last (o := ⟨none, .store 71 (.tmp 6) (.tmp 35), 0, "sponge.go:47", #[⟨5, .data⟩, ⟨5, .chain⟩, ⟨0, .phase⟩, ⟨1, .phase⟩, ⟨2, .phase⟩, ⟨3, .phase⟩, ⟨4, .phase⟩, ⟨5, .phase⟩], none⟩) (by kernel_rfl) (by kernel_rfl) rfl (by rfl) fun K hK => ?_
   refine wp_store_row 71 _ _ (by rfl) _ (by rfl) (by rfl) r3 (by simp [stL_length]) (arrInfo _) ?_
   intro w4 r4 hw4
   refine hK.out _ _ ?_
   clear hK K
   try simp only [Act.put, putA, putB, putC]
   have hb4 := hw4.below _ _ (Nat.le_refl _) hI4.b
   go_wp2_with fail
   refine bodyPost_row (p := 6) (ty := 71) rfl rfl rfl r4 Tryz.underlying71 rfl (arrInfo _) ?_
   refine ⟨?_, hb4⟩
   rw [HJ.out, lbL_length]
   refine congrArg Ending.returned (arrV_congr (tkF_congr r (fun _ _ => rfl) fun k hk => ?_))
   rw [HQ.out]
   exact lb_las r s l (by omega) k hk

theorem absorb_any (R S : Int) (s : UInt8) (hS : S = (s.toNat : Int)) (vb : Value) (l : List UInt8) (w : World) (hr : Rd w vb l) (ht : Tabs w) :
  Calls Tryz.prog 49 #[.int .i64 R, .int .u8 S, vb] w fun e w' => e = .returned (arrV (abF R s l)) ∧ Below w.heap.size w w' := by
 by_cases h : 1 ≤ R ∧ R ≤ 200
 ·obtain ⟨r, rfl⟩ : ∃ r : Nat, R = r := ⟨R.toNat, by omega⟩
  have e : arrV (abF (r : Int) s l) = arrV (tkF (fuN r l (l.length / r)) (lasB r s l) r) := by
   unfold abF
   rw [if_pos h, Int.toNat_natCast]
   exact arrV_congr fun k hk => abs_eq r s l (by omega) k hk
  rw [e]
  exact absorb_at r (by omega) (by omega) s S hS vb l w hr ht
 ·have e : abF R s l = fun _ => 0 := by unfold abF; rw [if_neg h]
  rw [e]
  exact absorb_zero R S h vb w
theorem otL_first (f : Nat → Nat) (r n : Nat) (h : n ≤ r) : otL f r n = bsP f n := by
 unfold otL bsP
 refine List.map_congr_left fun k hk => ?_
 have := List.mem_range.1 hk
 unfold smF
 rw [Nat.div_eq_of_lt (by omega), Nat.mod_eq_of_lt (by omega)]
 rfl

set_option maxHeartbeats 400000 in
theorem sum256_any (vb : Value) (l : List UInt8) (w : World) (hr : Rd w vb l) (ht : Tabs w) :
  Calls Tryz.prog 21 #[vb] w fun e w' => ∃ v, e = .returned v ∧ New 5 w v (otL (abF 136 6 l) 136 32) w' := by
 go_enter Tryz.func21, Tryz.ntmps21
 go_wp2_with fail
 refine (absorb_any 136 6 6 rfl _ l _ hr ht).mono ?_
 rintro e w2 ⟨rfl, hB⟩
 go_wp2_with fail
 refine (first_any _ (abF 136 6 l) (abF_lt _ _ _) rfl 32 (by omega) _).mono ?_
 rintro e w3 ⟨v3, rfl, hN3⟩
 go_wp2
 go_ret
 rw [otL_first _ _ _ (by omega)]
 exact ⟨_, rfl, hN3.from hB⟩

set_option maxHeartbeats 400000 in
theorem sum512_any (vb : Value) (l : List UInt8) (w : World) (hr : Rd w vb l) (ht : Tabs w) :
  Calls Tryz.prog 40 #[vb] w fun e w' => ∃ v, e = .returned v ∧ New 5 w v (otL (abF 72 6 l) 72 64) w' := by
 go_enter Tryz.func40, Tryz.ntmps40
 go_wp2_with fail
 refine (absorb_any 72 6 6 rfl _ l _ hr ht).mono ?_
 rintro e w2 ⟨rfl, hB⟩
 go_wp2_with fail
 refine (first_any _ (abF 72 6 l) (abF_lt _ _ _) rfl 64 (by omega) _).mono ?_
 rintro e w3 ⟨v3, rfl, hN3⟩
 go_wp2
 go_ret
 rw [otL_first _ _ _ (by omega)]
 exact ⟨_, rfl, hN3.from hB⟩

def xofC (f : Nat → Nat) (r c : Nat) : List Value := (stL f).map (Value.int .u64) ++ [Value.int .i64 (r : Int), .int .i64 (c : Int)]
theorem build_xof (f : Nat → Nat) (r : Int) (w : World) : (Instr.build 96 #[(0, arrV f), (1, .int .i64 r)]).run Tryz.prog w = .ok (.agg ((stL f).map (Value.int .u64) ++ [Value.int .i64 r, .int .i64 0]).toArray) w := by kernel_rfl
theorem wpList_build {P : Program} {ops : Array Oper} {rest : List Oper} {op : Oper} {a : Act} {w : World} {Q : Exit → Act → World → Prop} (hgd : op.guard = none) (t : TypeId) (ps : Array (Nat × Operand)) (ho : op.op = .build t ps)
  (vs : Array (Nat × Value)) (hv : ps.map (fun p => (p.1, a.eval p.2)) = vs) (v : Value) (hrun : (Instr.build t vs).run P w = .ok v w) (h : wpList P ops Q rest (a.put op.dst v) w) : wpList P ops Q (op :: rest) a w := by
 refine wpList_plain hgd fun K hK => ?_
 unfold Oper.wp execOp
 have hv' : Array.map (fun x => match x with | (i, x) => (i, a.eval x)) ps = vs := hv
 simp only [ho, hv', Sem.run_bind, hrun, Result.andThen_ok, Sem.run_pure]
 exact hK _ _ h
def XP (g : Nat) (f : Nat → Nat) (r p : Nat) (w : World) : Prop := ∃ t c, c ≤ r ∧ p = t * r + c ∧ BlkAt g 96 (xofC (itF f t) r c) w
theorem XP.chg {S : Nat → Prop} {g : Nat} {f : Nat → Nat} {r p : Nat} {w w' : World} (h : XP g f r p w) (c : Chg S w w') (hS : ¬ S g) : XP g f r p w' := by
 obtain ⟨t, k, h1, h2, h3⟩ := h
 exact ⟨t, k, h1, h2, h3.chg c hS⟩
theorem XP.kept {g : Nat} {f : Nat → Nat} {r p : Nat} {w w' : World} (h : XP g f r p w) (c : Below w.heap.size w w') : XP g f r p w' := h.chg (Chg.of_below (S := fun _ => False) c) id
theorem XP.lt {g : Nat} {f : Nat → Nat} {r p : Nat} {w : World} (h : XP g f r p w) : g < w.heap.size := by
 obtain ⟨t, k, h1, h2, h3⟩ := h
 exact h3.lt

set_option maxRecDepth 100000 in
set_option maxHeartbeats 400000 in
theorem shake_any (r : Nat) (h1 : 1 ≤ r) (h2 : r ≤ 200) (vb : Value) (l : List UInt8) (w : World) (hr : Rd w vb l) (ht : Tabs w) :
  Calls Tryz.prog 74 #[Value.int .i64 (r : Int), vb] w fun e w' => ∃ g, e = .returned (.pointer (some ⟨g, 0, none⟩)) ∧ w.heap.size ≤ g ∧ XP g (abF r 31 l) r 0 w' ∧ Below w.heap.size w w' := by
 go_enter Tryz.func74, Tryz.ntmps74
 go_wp2_with fail
 refine (absorb_any (r : Int) 31 31 rfl _ l _ hr ht).mono ?_
 rintro e w2 ⟨rfl, hB⟩
 have hbx : BlkAt w2.heap.size 96 (xofC (abF r 31 l) r 0) (w2.alloc (.cells ((stL (abF r 31 l)).map (Value.int .u64) ++ [Value.int .i64 (r : Int), .int .i64 0]).toArray 96)) := BlkAt.fresh rfl rfl
 have hb2 := stepB hB (growB (.cells ((stL (abF r 31 l)).map (Value.int .u64) ++ [Value.int .i64 (r : Int), .int .i64 0]).toArray 96))
 have hge := hB.size
 have HX : Hid (XP w2.heap.size (abF r 31 l) r 0 _) := ⟨0, 0, Nat.zero_le _, by simp, hbx⟩
 have HB : Hid _ := hb2
 have hbd := build_xof (abF r 31 l) r w2
 clear hbx hb2 hB
 generalize hC : ((stL (abF r 31 l)).map (Value.int .u64) ++ [Value.int .i64 (r : Int), .int .i64 0]).toArray = C at hbd HX HB
 clear hC
 go_wp2_with (refine wpList_build (by rfl) 96 _ (by rfl) #[(0, arrV (abF r 31 l)), (1, Value.int .i64 (r : Int))] (by go_simp; done) _ hbd ?_)
 go_ret
 exact ⟨_, rfl, hge, HX.out, HB.out⟩
theorem Tabs.chg {S : Nat → Prop} {w w' : World} (h : Tabs w) (c : Chg S w w') (hS : ∀ k, k ≤ 2 → ¬ S k) : Tabs w' := by
 have k2 := h.two
 exact ⟨fun i hi => by rw [World.cell?_of_block (w := w) (a := ⟨2, i, none⟩) (c.block _ (by show 2 < _; omega) (hS _ (by show 2 ≤ _; omega)))]; exact h.turns i hi,
  fun i hi => by rw [World.cell?_of_block (w := w) (a := ⟨1, i, none⟩) (c.block _ (by show 1 < _; omega) (hS _ (by show 1 ≤ _; omega)))]; exact h.consts i hi⟩
theorem xofC_rate (f : Nat → Nat) (r c : Nat) : (xofC f r c)[25]? = some (.int .i64 (r : Int)) := by
 unfold xofC
 rw [List.getElem?_append_right (by rw [List.length_map, stL_length]; omega), List.length_map, stL_length]
 rfl
theorem xofC_given (f : Nat → Nat) (r c : Nat) : (xofC f r c)[26]? = some (.int .i64 (c : Int)) := by
 unfold xofC
 rw [List.getElem?_append_right (by rw [List.length_map, stL_length]; omega), List.length_map, stL_length]
 rfl
theorem xofC_set (f : Nat → Nat) (r c d : Nat) (D : Int) (hD : D = (d : Int)) : (xofC f r c).set 26 (.int .i64 D) = xofC f r d := by
 subst hD
 unfold xofC
 rw [List.set_append_right _ _ (by rw [List.length_map, stL_length]; omega), List.length_map, stL_length]
 rfl
theorem smF_at (f : Nat → Nat) (r t c : Nat) (hc : c < r) : smF f r (t * r + c) = byF (itF f t) c := by
 unfold smF
 rw [Nat.mul_comm, Nat.mul_add_div (by omega), Nat.mul_add_mod, Nat.div_eq_of_lt hc, Nat.mod_eq_of_lt hc, Nat.add_zero]

set_option maxRecDepth 100000 in
set_option maxHeartbeats 1000000 in
theorem next_any (g : Nat) (f : Nat → Nat) (hf : ∀ i, f i < 18446744073709551616) (r p : Nat) (h1 : 1 ≤ r) (h2 : r ≤ 200) (w : World) (hX : XP g f r p w) (hg : 2 < g) (ht : Tabs w) :
  Calls Tryz.prog 75 #[.pointer (some ⟨g, 0, none⟩)] w fun e w' => e = .returned (.int .u8 ((smF f r p).toNat : Int)) ∧ XP g f r (p + 1) w' ∧ Chg (fun b => b = g) w w' ∧ Tabs w' := by
 have HF : Hid (∀ i, f i < 18446744073709551616) := hf
 clear hf
 obtain ⟨t, c, hc, hp, hB⟩ := hX
 have c25 : w.cell? ⟨g, 25, none⟩ = some (.int .i64 (r : Int)) := by rw [hB.cell, xofC_rate]
 have c26 : w.cell? ⟨g, 26, none⟩ = some (.int .i64 (c : Int)) := by rw [hB.cell, xofC_given]
 have f26 := hB.free 26
 by_cases hcr : c = r
 ·subst hcr
  have HP : Hid (smF f c p = byF (itF f (t + 1)) 0) := by
   have := smF_at f c (t + 1) 0 (by omega)
   rw [Nat.add_zero, Nat.add_mul, Nat.one_mul, ← hp] at this
   exact this
  have HP2 : Hid (p + 1 = (t + 1) * c + 1) := by
   show p + 1 = _
   rw [hp, Nat.add_mul, Nat.one_mul]
  clear hp
  have hB0 : BlkAt g 96 ([] ++ (stL (itF f t)).map (Value.int .u64) ++ [.int .i64 (c : Int), .int .i64 (c : Int)]) w := hB
  go_enter Tryz.func75, Tryz.ntmps75
  go_wp2_with fail
  refine wpG_begin (by kernel_rfl) ?_
  refine wpG_t (i := 0) (oi := ⟨some 3, .move (.tmp 0), 51, "sponge.go:120", #[], none⟩) (v := ?_) ?_ ?_
  rotate_left
  ·intro W hW; go_simp <;> with_reducible rfl
  try simp only [Act.put, putA, putB, putC]
  refine wpG_t (i := 1) (oi := ⟨some 4, .nilCheck (.tmp 3), 0, "sponge.go:120", #[⟨0, .data⟩], none⟩) (v := ?_) ?_ ?_
  rotate_left
  ·intro W hW; go_simp <;> with_reducible rfl
  try simp only [Act.put, putA, putB, putC]
  refine wpG_t (i := 2) (oi := ⟨some 5, .fieldAddr 96 (.tmp 4) 2, 0, "sponge.go:120", #[⟨1, .data⟩], none⟩) (v := ?_) ?_ ?_
  rotate_left
  ·intro W hW; go_simp <;> with_reducible rfl
  try simp only [Act.put, putA, putB, putC]
  refine wpG_t (i := 3) (oi := ⟨some 6, .load 3 (.tmp 5), 3, "sponge.go:120", #[⟨2, .data⟩], none⟩) (v := ?_) ?_ ?_
  rotate_left
  ·intro W hW; have hcW := cellU c26 hW; go_simp <;> with_reducible rfl
  try simp only [Act.put, putA, putB, putC]
  refine wpG_t (i := 4) (oi := ⟨some 7, .move (.tmp 0), 51, "sponge.go:120", #[], none⟩) (v := ?_) ?_ ?_
  rotate_left
  ·intro W hW; go_simp <;> with_reducible rfl
  try simp only [Act.put, putA, putB, putC]
  refine wpG_t (i := 5) (oi := ⟨some 8, .nilCheck (.tmp 7), 0, "sponge.go:120", #[⟨4, .data⟩], none⟩) (v := ?_) ?_ ?_
  rotate_left
  ·intro W hW; go_simp <;> with_reducible rfl
  try simp only [Act.put, putA, putB, putC]
  refine wpG_t (i := 6) (oi := ⟨some 9, .fieldAddr 96 (.tmp 8) 1, 0, "sponge.go:120", #[⟨5, .data⟩], none⟩) (v := ?_) ?_ ?_
  rotate_left
  ·intro W hW; go_simp <;> with_reducible rfl
  try simp only [Act.put, putA, putB, putC]
  refine wpG_t (i := 7) (oi := ⟨some 10, .load 3 (.tmp 9), 3, "sponge.go:120", #[⟨6, .data⟩], none⟩) (v := ?_) ?_ ?_
  rotate_left
  ·intro W hW; have hcW := cellU c25 hW; go_simp <;> with_reducible rfl
  try simp only [Act.put, putA, putB, putC]
  refine wpG_t (i := 8) (oi := ⟨some 11, .binOp .eql 3 (.tmp 6) (.tmp 10) 3, 4, "sponge.go:120", #[⟨3, .data⟩, ⟨7, .data⟩], none⟩) (v := ?_) ?_ ?_
  rotate_left
  ·intro W hW; go_simp <;> with_reducible rfl
  try simp only [Act.put, putA, putB, putC]
  refine wpG_done (by kernel_rfl) ?_
  have hBd := hB0.drew
  have htd := ht.kept (Below.refl _ _).drew
  have f26d : w.drew.frozen? ⟨g, 26, none⟩ = false := f26
  have c26d : w.drew.cell? ⟨g, 26, none⟩ = some (.int .i64 (c : Int)) := c26
  go_wp2_with (refine wpList_load_blk rfl 71 _ rfl (g := g) (o := 0) (by go_simp; done) hBd rfl Tryz.underlying71 rfl (by rw [List.length_map]; exact arrInfo _) ?_)
  refine (kF_any _ (itF f t) (itF_lt f HF.out t) rfl _ htd).mono ?_
  rintro e w2 ⟨rfl, hB2⟩
  rw [arrV_F _ (itF_lt f HF.out t)]
  have hBd2 := hBd.kept hB2
  have ht2 := htd.kept hB2
  have hch2 : Chg (fun b => b = g) w w2 := (Chg.refl _ w).drew.trans (.of_below hB2)
  clear hB0 hBd htd f26d c26d c25 c26 f26 hB ht hB2
  go_wp2_with (refine wpList_store_blk rfl 71 _ _ rfl (g := g) (o := 0) (by go_simp; done) ((stL (itF f (t + 1))).map (Value.int .u64)) rfl hBd2 rfl (by rw [List.length_map, List.length_map, stL_length, stL_length]) (by rw [List.length_map]; exact arrInfo _) (ints_one _ _) ?_)
  intro w3 hB3 hw3
  have hBx : BlkAt g 96 (xofC (itF f (t + 1)) c c) w3 := hB3
  have d25 : w3.cell? ⟨g, 25, none⟩ = some (.int .i64 (c : Int)) := by rw [hBx.cell, xofC_rate]
  have d26 : w3.cell? ⟨g, 26, none⟩ = some (.int .i64 (c : Int)) := by rw [hBx.cell, xofC_given]
  have e26 := hBx.free 26
  have hch3 := hch2.trans (Chg.of_wrote hw3)
  have ht3 := ht2.chg (Chg.of_wrote hw3) (fun k hk h => by omega)
  have hB4 := hBx.set 26 (.int .i64 0)
  rw [xofC_set _ _ _ 0 0 rfl] at hB4
  have hB5 := hB4.set 26 (.int .i64 1)
  rw [xofC_set _ _ _ 1 1 rfl] at hB5
  have hw4 := (Wrote.set g 26 w3 (.int .i64 0)).trans (Wrote.set g 26 _ (.int .i64 1))
  have hch5 := hch3.trans (Chg.of_wrote hw4)
  have ht5 := ht3.chg (Chg.of_wrote hw4) (fun k hk h => by omega)
  clear hB3 hw3 hBd2 ht2 hch2 hBx hch3 ht3 hB4 hw4
  go_wp2_with fail
  generalize (w3.setCell ⟨g, 26, none⟩ (.int .i64 0)).setCell ⟨g, 26, none⟩ (.int .i64 1) = w5 at hB5 hch5 ht5
  have k26 : w5.cell? ⟨g, 26, none⟩ = some (.int .i64 1) := by rw [hB5.cell, xofC_given]; rfl
  have hB6 : BlkAt g 96 ([] ++ (stL (itF f (t + 1))).map (Value.int .u64) ++ [.int .i64 (c : Int), .int .i64 ((1 : Nat) : Int)]) w5 := hB5
  refine wpG_begin (by kernel_rfl) ?_
  refine wpG_t (i := 0) (oi := ⟨some 30, .move (.tmp 0), 51, "sponge.go:125", #[], none⟩) (v := ?_) ?_ ?_
  rotate_left
  ·intro W hW; go_simp <;> with_reducible rfl
  try simp only [Act.put, putA, putB, putC]
  refine wpG_t (i := 1) (oi := ⟨some 31, .nilCheck (.tmp 30), 0, "sponge.go:125", #[⟨0, .data⟩], none⟩) (v := ?_) ?_ ?_
  rotate_left
  ·intro W hW; go_simp <;> with_reducible rfl
  try simp only [Act.put, putA, putB, putC]
  refine wpG_t (i := 2) (oi := ⟨some 32, .fieldAddr 96 (.tmp 31) 0, 0, "sponge.go:125", #[⟨1, .data⟩], none⟩) (v := ?_) ?_ ?_
  rotate_left
  ·intro W hW; go_simp <;> with_reducible rfl
  try simp only [Act.put, putA, putB, putC]
  refine wpG_t (i := 3) (oi := ⟨some 33, .load 71 (.tmp 32), 71, "sponge.go:125", #[⟨2, .data⟩], none⟩) (v := ?_) ?_ ?_
  rotate_left
  ·intro W hW; refine Eq.trans (exec_load_blk 71 _ (by rfl) (g := g) (o := 0) (by go_simp; done) (hB6.drew.kept hW) rfl Tryz.underlying71 rfl (by rw [List.length_map]; exact arrInfo _)) ?_; with_reducible rfl
  try simp only [Act.put, putA, putB, putC]
  refine wpG_t (i := 4) (oi := ⟨some 34, .move (.tmp 0), 51, "sponge.go:125", #[], none⟩) (v := ?_) ?_ ?_
  rotate_left
  ·intro W hW; go_simp <;> with_reducible rfl
  try simp only [Act.put, putA, putB, putC]
  refine wpG_t (i := 5) (oi := ⟨some 35, .nilCheck (.tmp 34), 0, "sponge.go:125", #[⟨4, .data⟩], none⟩) (v := ?_) ?_ ?_
  rotate_left
  ·intro W hW; go_simp <;> with_reducible rfl
  try simp only [Act.put, putA, putB, putC]
  refine wpG_t (i := 6) (oi := ⟨some 36, .fieldAddr 96 (.tmp 35) 2, 0, "sponge.go:125", #[⟨5, .data⟩], none⟩) (v := ?_) ?_ ?_
  rotate_left
  ·intro W hW; go_simp <;> with_reducible rfl
  try simp only [Act.put, putA, putB, putC]
  refine wpG_t (i := 7) (oi := ⟨some 37, .load 3 (.tmp 36), 3, "sponge.go:125", #[⟨6, .data⟩], none⟩) (v := ?_) ?_ ?_
  rotate_left
  ·intro W hW; have hcW := cellU k26 hW; go_simp <;> with_reducible rfl
  try simp only [Act.put, putA, putB, putC]
  refine wpG_t (i := 8) (oi := ⟨some 38, .binOp .sub 3 (.tmp 37) (.const (.int .i64 1)) 3, 3, "sponge.go:125", #[⟨7, .data⟩], none⟩) (v := ?_) ?_ ?_
  rotate_left
  ·intro W hW; go_simp <;> with_reducible rfl
  try simp only [Act.put, putA, putB, putC]
  refine wpG_do (i := 9) (o := ⟨some 39, .call { callee := .value (.func 93), args := #[.tmp 33, .tmp 38], argTypes := #[71, 3] }, 5, "sponge.go:125", #[⟨3, .data⟩, ⟨8, .data⟩], none⟩) (by kernel_rfl) rfl (by rfl) fun K hK => ?_
  go_simp
  refine (byteAt_any _ (itF f (t + 1)) (itF_lt f HF.out (t + 1)) rfl 0 (by omega) _).mono ?_
  rintro e w6 ⟨rfl, hB7⟩
  refine hK.out _ _ hB7 ?_
  clear hK K
  try simp only [Act.put, putA, putB, putC]
  refine wpG_t (i := 10) (oi := ⟨some 2, .assign (.tmp 39), 5, "sponge.go:125", #[⟨9, .data⟩, ⟨9, .chain⟩, ⟨0, .phase⟩, ⟨1, .phase⟩, ⟨2, .phase⟩, ⟨3, .phase⟩, ⟨4, .phase⟩, ⟨5, .phase⟩, ⟨6, .phase⟩, ⟨7, .phase⟩, ⟨8, .phase⟩, ⟨9, .phase⟩], none⟩) (v := ?_) ?_ ?_
  rotate_left
  ·intro W hW; go_simp <;> with_reducible rfl
  try simp only [Act.put, putA, putB, putC]
  refine wpG_done (by kernel_rfl) ?_
  have hfin : Chg (fun b => b = g) w w6 := hch5.drew.trans (.of_below hB7)
  have hBf : BlkAt g 96 (xofC (itF f (t + 1)) c 1) w6 := hB5.drew.kept hB7
  have htf := (ht5.kept (Below.refl _ _).drew).kept hB7
  go_wp2
  go_ret
  rw [HP.out]
  exact ⟨rfl, ⟨t + 1, 1, by omega, HP2.out, hBf⟩, hfin, htf⟩
 ·have hclt : c < r := by omega
  have hne : ¬ (c : Int) = (r : Int) := by omega
  have HP : Hid (smF f r p = byF (itF f t) c) := by
   have := smF_at f r t c hclt
   rw [← hp] at this
   exact this
  have HP2 : Hid (p + 1 = t * r + (c + 1)) := by
   show p + 1 = _
   rw [hp]
   omega
  have cw : IntKind.i64.wrap ((c : Int) + 1) = (c : Int) + 1 := IntWalk.i64_in _ (by omega)
  have cw2 : IntKind.i64.wrap (c : Int) = (c : Int) := IntWalk.i64_in _ (by omega)
  clear hp
  go_enter Tryz.func75, Tryz.ntmps75
  go_wp2_with fail
  refine wpG_begin (by kernel_rfl) ?_
  refine wpG_t (i := 0) (oi := ⟨some 3, .move (.tmp 0), 51, "sponge.go:120", #[], none⟩) (v := ?_) ?_ ?_
  rotate_left
  ·intro W hW; go_simp <;> with_reducible rfl
  try simp only [Act.put, putA, putB, putC]
  refine wpG_t (i := 1) (oi := ⟨some 4, .nilCheck (.tmp 3), 0, "sponge.go:120", #[⟨0, .data⟩], none⟩) (v := ?_) ?_ ?_
  rotate_left
  ·intro W hW; go_simp <;> with_reducible rfl
  try simp only [Act.put, putA, putB, putC]
  refine wpG_t (i := 2) (oi := ⟨some 5, .fieldAddr 96 (.tmp 4) 2, 0, "sponge.go:120", #[⟨1, .data⟩], none⟩) (v := ?_) ?_ ?_
  rotate_left
  ·intro W hW; go_simp <;> with_reducible rfl
  try simp only [Act.put, putA, putB, putC]
  refine wpG_t (i := 3) (oi := ⟨some 6, .load 3 (.tmp 5), 3, "sponge.go:120", #[⟨2, .data⟩], none⟩) (v := ?_) ?_ ?_
  rotate_left
  ·intro W hW; have hcW := cellU c26 hW; go_simp <;> with_reducible rfl
  try simp only [Act.put, putA, putB, putC]
  refine wpG_t (i := 4) (oi := ⟨some 7, .move (.tmp 0), 51, "sponge.go:120", #[], none⟩) (v := ?_) ?_ ?_
  rotate_left
  ·intro W hW; go_simp <;> with_reducible rfl
  try simp only [Act.put, putA, putB, putC]
  refine wpG_t (i := 5) (oi := ⟨some 8, .nilCheck (.tmp 7), 0, "sponge.go:120", #[⟨4, .data⟩], none⟩) (v := ?_) ?_ ?_
  rotate_left
  ·intro W hW; go_simp <;> with_reducible rfl
  try simp only [Act.put, putA, putB, putC]
  refine wpG_t (i := 6) (oi := ⟨some 9, .fieldAddr 96 (.tmp 8) 1, 0, "sponge.go:120", #[⟨5, .data⟩], none⟩) (v := ?_) ?_ ?_
  rotate_left
  ·intro W hW; go_simp <;> with_reducible rfl
  try simp only [Act.put, putA, putB, putC]
  refine wpG_t (i := 7) (oi := ⟨some 10, .load 3 (.tmp 9), 3, "sponge.go:120", #[⟨6, .data⟩], none⟩) (v := ?_) ?_ ?_
  rotate_left
  ·intro W hW; have hcW := cellU c25 hW; go_simp <;> with_reducible rfl
  try simp only [Act.put, putA, putB, putC]
  refine wpG_t (i := 8) (oi := ⟨some 11, .binOp .eql 3 (.tmp 6) (.tmp 10) 3, 4, "sponge.go:120", #[⟨3, .data⟩, ⟨7, .data⟩], none⟩) (v := ?_) ?_ ?_
  rotate_left
  ·intro W hW; go_simp <;> with_reducible rfl
  try simp only [Act.put, putA, putB, putC]
  refine wpG_done (by kernel_rfl) ?_
  have hBd := hB.drew
  have htd := ht.kept (Below.refl _ _).drew
  have f26d : w.drew.frozen? ⟨g, 26, none⟩ = false := f26
  have c26d : w.drew.cell? ⟨g, 26, none⟩ = some (.int .i64 (c : Int)) := c26
  have hchd : Chg (fun b => b = g) w w.drew := (Chg.refl _ w).drew
  generalize w.drew = wd at hBd htd f26d c26d hchd ⊢
  have hB5 := hBd.set 26 (.int .i64 ((c : Int) + 1))
  rw [xofC_set _ _ _ (c + 1) _ (by omega)] at hB5
  have hw4 := Wrote.set g 26 wd (.int .i64 ((c : Int) + 1))
  have hch5 : Chg (fun b => b = g) w (wd.setCell ⟨g, 26, none⟩ (.int .i64 ((c : Int) + 1))) := hchd.trans (Chg.of_wrote hw4)
  have ht5 := htd.chg (Chg.of_wrote hw4) (fun k hk h => by omega)
  clear hBd htd hchd c25 c26 f26 hB ht hw4
  go_wp2_with fail
  generalize wd.setCell ⟨g, 26, none⟩ (.int .i64 ((c : Int) + 1)) = w5 at hB5 hch5 ht5
  have k26 : w5.cell? ⟨g, 26, none⟩ = some (.int .i64 ((c : Int) + 1)) := by rw [hB5.cell, xofC_given]; rfl
  have hB6 : BlkAt g 96 ([] ++ (stL (itF f t)).map (Value.int .u64) ++ [.int .i64 (r : Int), .int .i64 ((c + 1 : Nat) : Int)]) w5 := hB5
  refine wpG_begin (by kernel_rfl) ?_
  refine wpG_t (i := 0) (oi := ⟨some 30, .move (.tmp 0), 51, "sponge.go:125", #[], none⟩) (v := ?_) ?_ ?_
  rotate_left
  ·intro W hW; go_simp <;> with_reducible rfl
  try simp only [Act.put, putA, putB, putC]
  refine wpG_t (i := 1) (oi := ⟨some 31, .nilCheck (.tmp 30), 0, "sponge.go:125", #[⟨0, .data⟩], none⟩) (v := ?_) ?_ ?_
  rotate_left
  ·intro W hW; go_simp <;> with_reducible rfl
  try simp only [Act.put, putA, putB, putC]
  refine wpG_t (i := 2) (oi := ⟨some 32, .fieldAddr 96 (.tmp 31) 0, 0, "sponge.go:125", #[⟨1, .data⟩], none⟩) (v := ?_) ?_ ?_
  rotate_left
  ·intro W hW; go_simp <;> with_reducible rfl
  try simp only [Act.put, putA, putB, putC]
  refine wpG_t (i := 3) (oi := ⟨some 33, .load 71 (.tmp 32), 71, "sponge.go:125", #[⟨2, .data⟩], none⟩) (v := ?_) ?_ ?_
  rotate_left
  ·intro W hW; refine Eq.trans (exec_load_blk 71 _ (by rfl) (g := g) (o := 0) (by go_simp; done) (hB6.drew.kept hW) rfl Tryz.underlying71 rfl (by rw [List.length_map]; exact arrInfo _)) ?_; with_reducible rfl
  try simp only [Act.put, putA, putB, putC]
  refine wpG_t (i := 4) (oi := ⟨some 34, .move (.tmp 0), 51, "sponge.go:125", #[], none⟩) (v := ?_) ?_ ?_
  rotate_left
  ·intro W hW; go_simp <;> with_reducible rfl
  try simp only [Act.put, putA, putB, putC]
  refine wpG_t (i := 5) (oi := ⟨some 35, .nilCheck (.tmp 34), 0, "sponge.go:125", #[⟨4, .data⟩], none⟩) (v := ?_) ?_ ?_
  rotate_left
  ·intro W hW; go_simp <;> with_reducible rfl
  try simp only [Act.put, putA, putB, putC]
  refine wpG_t (i := 6) (oi := ⟨some 36, .fieldAddr 96 (.tmp 35) 2, 0, "sponge.go:125", #[⟨5, .data⟩], none⟩) (v := ?_) ?_ ?_
  rotate_left
  ·intro W hW; go_simp <;> with_reducible rfl
  try simp only [Act.put, putA, putB, putC]
  refine wpG_t (i := 7) (oi := ⟨some 37, .load 3 (.tmp 36), 3, "sponge.go:125", #[⟨6, .data⟩], none⟩) (v := ?_) ?_ ?_
  rotate_left
  ·intro W hW; have hcW := cellU k26 hW; go_simp <;> with_reducible rfl
  try simp only [Act.put, putA, putB, putC]
  refine wpG_t (i := 8) (oi := ⟨some 38, .binOp .sub 3 (.tmp 37) (.const (.int .i64 1)) 3, 3, "sponge.go:125", #[⟨7, .data⟩], none⟩) (v := ?_) ?_ ?_
  rotate_left
  ·intro W hW; go_simp <;> with_reducible rfl
  try simp only [Act.put, putA, putB, putC]
  refine wpG_do (i := 9) (o := ⟨some 39, .call { callee := .value (.func 93), args := #[.tmp 33, .tmp 38], argTypes := #[71, 3] }, 5, "sponge.go:125", #[⟨3, .data⟩, ⟨8, .data⟩], none⟩) (by kernel_rfl) rfl (by rfl) fun K hK => ?_
  go_simp
  refine (byteAt_any _ (itF f t) (itF_lt f HF.out t) rfl c (by omega) _).mono ?_
  rintro e w6 ⟨rfl, hB7⟩
  refine hK.out _ _ hB7 ?_
  clear hK K
  try simp only [Act.put, putA, putB, putC]
  refine wpG_t (i := 10) (oi := ⟨some 2, .assign (.tmp 39), 5, "sponge.go:125", #[⟨9, .data⟩, ⟨9, .chain⟩, ⟨0, .phase⟩, ⟨1, .phase⟩, ⟨2, .phase⟩, ⟨3, .phase⟩, ⟨4, .phase⟩, ⟨5, .phase⟩, ⟨6, .phase⟩, ⟨7, .phase⟩, ⟨8, .phase⟩, ⟨9, .phase⟩], none⟩) (v := ?_) ?_ ?_
  rotate_left
  ·intro W hW; go_simp <;> with_reducible rfl
  try simp only [Act.put, putA, putB, putC]
  refine wpG_done (by kernel_rfl) ?_
  have hfin : Chg (fun b => b = g) w w6 := hch5.drew.trans (.of_below hB7)
  have hBf : BlkAt g 96 (xofC (itF f t) r (c + 1)) w6 := hB5.drew.kept hB7
  have htf := (ht5.kept (Below.refl _ _).drew).kept hB7
  go_wp2
  go_ret
  rw [HP.out]
  exact ⟨rfl, ⟨t, c + 1, by omega, HP2.out, hBf⟩, hfin, htf⟩
def pcL (f : Nat → Nat) (r p m : Nat) : List UInt8 := (List.range m).map fun k => smF f r (p + k)
theorem pcL_length (f : Nat → Nat) (r p m : Nat) : (pcL f r p m).length = m := by simp [pcL]
theorem pcL_first (f : Nat → Nat) (r m : Nat) : pcL f r 0 m = otL f r m := by
 unfold pcL otL
 exact List.map_congr_left fun k _ => by rw [Nat.zero_add]
structure RI (w : World) (g : Nat) (f : Nat → Nat) (r p m j : Nat) (wr : World) : Prop where
 own : wr.ownsRow w.heap.size 5 1 (.slice (some ⟨w.heap.size, 0, none⟩) m m) m (rowV (fun k => smF f r (p + k)) m j)
 x : XP g f r (p + j) wr
 c : Chg (fun b => b = g) w wr
 t : Tabs wr

set_option maxRecDepth 100000 in
set_option maxHeartbeats 1000000 in
theorem read_any (g : Nat) (f : Nat → Nat) (hf : ∀ i, f i < 18446744073709551616) (r p : Nat) (h1 : 1 ≤ r) (h2 : r ≤ 200) (n : Int) (m : Nat) (hm : m = n.toNat) (hn : n ≤ 1000000) (w : World) (hX : XP g f r p w) (hg : 2 < g) (ht : Tabs w) :
  Calls Tryz.prog 35 #[.pointer (some ⟨g, 0, none⟩), .int .i64 n] w fun e w' => ∃ v, e = .returned v ∧ w'.ownsRow w.heap.size 5 1 v (pcL f r p m).length ((pcL f r p m).map bv) ∧ XP g f r (p + m) w' ∧ Chg (fun b => b = g) w w' ∧ Tabs w' := by
 obtain ⟨i, hi, hz0, hz1, hz2⟩ := info_parts info5
 have HF : Hid (∀ i, f i < 18446744073709551616) := hf
 clear hf
 have HX : Hid (XP g f r p w) := hX
 have c25 : w.cell? ⟨g, 25, none⟩ = some (.int .i64 (r : Int)) := by
  obtain ⟨t, c, hc, hp, hB⟩ := hX
  rw [hB.cell, xofC_rate]
 have hgl := hX.lt
 clear hX
 have hr0 : ¬ (r : Int) = 0 := by omega
 have hr1 : ((r : Int) == 0) = false := by simpa using hr0
 have d1 : decide ((2147483647 : Int) < n) = false := decide_eq_false (by omega)
 have g1 : n ≤ 2147483647 := by omega
 have hmx : max n 0 = (m : Int) := by omega
 have hcase : (n < 0 ∧ m = 0) ∨ (0 ≤ n ∧ n = (m : Int)) := by omega
 have HM : Hid (m = n.toNat) := hm
 clear hm
 go_enter Tryz.func35, Tryz.ntmps35
 go_wp2_with (at_make; go_must (refine wpList_make_full _ rfl _ _ 22 rfl w.heap.size 5 i _ 1 Tryz.underlying22 hi hz0 hz1 _ _ _ _ m rfl rfl (by omega) (by omega) (by rw [hz2]; omega) (by unfold maxLen; omega) (Nat.le_refl _) ?_))
 all_goals
  intro w1 hown hgr
  have hI : RI w g f r p m 0 w1 := by
   rw [rowV_made (fun k => smF f r (p + k))] at hown
   have c0 : Chg (fun b => some b = none) w w1 := Chg.of_grown hgr
   exact ⟨hown, HX.out.chg c0 (by simp), c0.mono (fun k _ h => by simp at h), ht.chg c0 (by simp)⟩
  have hmb : m ≤ 1000000 := by omega
  clear hown hgr HX ht c25 hcase hmx d1 g1 hn HM
  go_wp2
  go_loopw [25] (fun i wr => ∃ j : Nat, j ≤ m ∧ i = .int .i64 j ∧ RI w g f r p m j wr) (fun i _ => m - (intOf i).toNat)
  case atStart => exact ⟨0, Nat.zero_le _, rfl, hI⟩
  case round =>
   obtain ⟨j, hj, rfl, hI2⟩ := hrel
   clear hI
   by_cases hlt : j < m
   ·have hdt : decide ((j : Int) < (m : Int)) = true := decide_eq_true (by omega)
    have hjI : (j : Int) < m := by omega
    go_wp2_with fail
    refine (next_any g f HF.out r (p + j) h1 h2 _ hI2.x hg hI2.t).mono ?_
    rintro e w2 ⟨rfl, hX2, hC2, hT2⟩
    have hown2 := own_chg hI2.own hC2 (fun b hb => by simp only [Value.ownBlock, Option.some.injEq] at hb; omega)
    have hch2 := hI2.c.trans hC2
    clear hI2 hC2
    have hcj := hown2.cellAt j (by simpa [rowV_length] using hlt)
    rw [rowV_get _ _ _ _ hlt] at hcj
    have hfj := hown2.frozenAt j
    have hst := (hown2.stored j (bv (smF f r (p + j)))).1
    rw [rowV_set (fun k => smF f r (p + k))] at hst
    have hwr := Wrote.set w.heap.size j w2 (bv (smF f r (p + j)))
    have hI3 : RI w g f r p m (j + 1) (w2.setCell ⟨w.heap.size, j, none⟩ (bv (smF f r (p + j)))) := ⟨hst, hX2.chg (Chg.of_wrote hwr) (by omega), hch2.step (Chg.of_wrote hwr) (fun k hk h => by omega), hT2.chg (Chg.of_wrote hwr) (fun k hk h => by omega)⟩
    have HI : Hid _ := hI3
    unfold bv at hcj HI
    generalize smF f r (p + j) = x at HI
    clear hown2 hst hwr hX2 hch2 hT2 hI3
    go_wp2
    go_roundw
    case rel => exact ⟨j + 1, by omega, by go_num, HI.out⟩
    case measure => simp [intOf]; omega
   ·have hje : j = m := by omega
    subst hje
    have hown2 := hI2.own
    rw [rowV_full] at hown2
    go_wp2
    go_ret
    refine ⟨_, rfl, ?_, hI2.x, hI2.c, hI2.t⟩
    rw [pcL_length]
    exact hown2

theorem shake128_any (vb : Value) (l : List UInt8) (w : World) (hr : Rd w vb l) (ht : Tabs w) :
  Calls Tryz.prog 130 #[vb] w fun e w' => ∃ g, e = .returned (.pointer (some ⟨g, 0, none⟩)) ∧ w.heap.size ≤ g ∧ XP g (abF 168 31 l) 168 0 w' ∧ Below w.heap.size w w' := by
 go_enter Tryz.func130, Tryz.ntmps130
 go_wp2_with fail
 refine (shake_any 168 (by omega) (by omega) _ l _ hr ht).mono ?_
 rintro e w2 ⟨g, rfl, h1, h2, h3⟩
 go_wp2
 go_ret
 exact ⟨g, rfl, h1, h2, h3⟩

theorem shake256_any (vb : Value) (l : List UInt8) (w : World) (hr : Rd w vb l) (ht : Tabs w) :
  Calls Tryz.prog 34 #[vb] w fun e w' => ∃ g, e = .returned (.pointer (some ⟨g, 0, none⟩)) ∧ w.heap.size ≤ g ∧ XP g (abF 136 31 l) 136 0 w' ∧ Below w.heap.size w w' := by
 go_enter Tryz.func34, Tryz.ntmps34
 go_wp2_with fail
 refine (shake_any 136 (by omega) (by omega) _ l _ hr ht).mono ?_
 rintro e w2 ⟨g, rfl, h1, h2, h3⟩
 go_wp2
 go_ret
 exact ⟨g, rfl, h1, h2, h3⟩
theorem convS {w : World} {v : Value} {l : List UInt8} (h : Rd w v l) : (convert 22 9 v).run Tryz.prog w = .ok (.string ⟨l.toArray⟩) w := h.conv Tryz.underlying22 Tryz.underlying5 Tryz.underlying9
theorem Chg.past {g B : Nat} {a w w' : World} (h : Below B a w) (c : Chg (fun b => b = g) w w') (hB : B ≤ w.heap.size) (hg : B ≤ g) : Below B a w' := c.below h hB fun k _ e => by omega
theorem own_past {g : Nat} {w w' : World} {base : Nat} {e : TypeId} {v : Value} {n : Nat} {xs : List Value} (h : w.ownsRow base e 1 v n xs) (c : Chg (fun b => b = g) w w') (hg : g < base) : w'.ownsRow base e 1 v n xs :=
 own_chg h c fun b hb e => by
  have := (h.lt b hb).1
  omega
theorem New.slice {e : TypeId} {w w' : World} {v : Value} {l : List UInt8} (h : New e w v l w') (hl : l ≠ []) : ∃ g cap, v = .slice (some ⟨g, 0, none⟩) l.length cap ∧ l.length ≤ cap := by
 have hpos : 0 < l.length := List.length_pos_iff.2 hl
 rcases h.1.2 with ⟨h', h0⟩ | ⟨g, cap, cur, h', hb, hg, hn, hm, hs, ht⟩
 ·omega
 ·exact ⟨g, cap, h', hn⟩
end Go.Proofs.YtmhbjaampobcbaaGreatDoor
