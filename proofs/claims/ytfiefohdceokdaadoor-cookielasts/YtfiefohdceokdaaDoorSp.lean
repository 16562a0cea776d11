/- What functions of the program, or of the reference, answer: contracts; several texts in one. -/
import Derived.Test.YtfiefohdceokdaaDoorKc
import Derived.Test.YtfiefohdceokdaaDoorWords
import Derived.Test.YtfiefohdceokdaaDoorKec
import Derived.Test.YtfiefohdceokdaaDoorBase
import Derived.Test.YtfiefohdceokdaaDoorRfb

/- What the small functions of package sponge answer: a state's byte, its first bytes, the last block, one block taken in. -/
namespace Go.Proofs.YtfiefohdceokdaaDoor
open Go.ChangeShapes Go.WideShapes Go.ChangeAt Go.RowKit
set_option linter.unusedSimpArgs false
set_option linter.unusedVariables false

theorem byF_shr (f : Nat → Nat) (n : Nat) : ((f (n / 8) : Nat) : Int) / 2 ^ (8 * (n % 8)) % 256 = ((byF f n).toNat : Int) := stB_shr (f (n / 8)) (n % 8)

set_option maxHeartbeats 400000 in
theorem byteAt_any (A : Array Value) (f : Nat → Nat) (hf : ∀ i, f i < 18446744073709551616) (hA : A = ((stL f).map (Value.int .u64)).toArray) (n : Nat) (hn : n < 200) (w : World) :
    Calls Tryd.prog 30 #[.agg A, .int .i64 (n : Int)] w fun e w' => e = .returned (.int .u8 ((byF f n).toNat : Int)) ∧ Below w.heap.size w w' := by
  have HA : Hid _ := hA
  have hq := hf (n / 8)
  clear hA hf
  obtain ⟨d, hd⟩ : ∃ d : Nat, d = n / 8 := ⟨_, rfl⟩
  obtain ⟨m, hm⟩ : ∃ m : Nat, m = n % 8 := ⟨_, rfl⟩
  have td : (n : Int).tdiv 8 = (d : Int) := by rw [hd, Int.tdiv_eq_ediv_of_nonneg (by omega)]; omega
  have tm : (n : Int).tmod 8 = (m : Int) := by rw [hm, Int.tmod_eq_emod_of_nonneg (by omega)]; omega
  have bd : (d : Int) < 25 := by omega
  have bm : (m : Int) < 8 := by omega
  have w8 : IntKind.i64.wrap (8 * (m : Int)) = 8 * (m : Int) := IntWalk.i64_in _ (by omega)
  have n8 : (8 * (m : Int)).toNat = 8 * m := by omega
  have HE : Hid _ := byF_shr f n
  rw [← hm] at HE
  rw [← hd] at HE hq
  have r0 : RowAt .u64 41 w.heap.size 25 (stL f) (w.alloc (.cells A 41)) := RowAt.fresh (stL f) HA.out rfl (stL_length f).symm (stL_ne f) max25
  have hc := r0.cell (j := d) (by rw [stL_length]; omega)
  rw [stL_get _ _ (by omega)] at hc
  have hb : Below w.heap.size w (w.alloc (.cells A 41)) := growB _
  generalize f d = q at hc HE hq
  clear r0 HA hd hm
  go_enter Tryd.func30, Tryd.ntmps30
  go_wp2
  go_ret
  exact ⟨retI (by first | exact HE.out | simpa using HE.out), hb⟩

theorem New.of_fill {e : TypeId} {w wb : World} {B n : Nat} {f : Nat → UInt8} {wr : World} (h : Fill e wb B n f n wr) (hb : Below w.heap.size w wb) : New e w (.slice (some ⟨B, 0, none⟩) n n) ((List.range n).map f) wr := h.done.from hb
theorem Fill.kept {e : TypeId} {w : World} {B n : Nat} {f : Nat → UInt8} {k : Nat} {wr w2 : World} (h : Fill e w B n f k wr) (hb : Below wr.heap.size wr w2) : Fill e w B n f k w2 := ⟨ownsRow_below h.1 hb, h.2.trans (hb.mono h.2.size)⟩

set_option maxHeartbeats 400000 in
theorem first_any (A : Array Value) (f : Nat → Nat) (hf : ∀ i, f i < 18446744073709551616) (hA : A = ((stL f).map (Value.int .u64)).toArray) (n : Nat) (hn : n ≤ 200) (w : World) :
    Calls Tryd.prog 26 #[.agg A, .int .i64 (n : Int)] w fun e w' => ∃ v, e = .returned v ∧ New 5 w v (bsP f n) w' := by
  obtain ⟨i, hi, hz0, hz1, hz2⟩ := info_parts info5
  have HA : Hid _ := hA
  have HF : Hid (∀ i, f i < 18446744073709551616) := hf
  clear hA hf
  have r0 : RowAt .u64 41 w.heap.size 25 (stL f) (w.alloc (.cells A 41)) := RowAt.fresh (stL f) HA.out rfl (stL_length f).symm (stL_ne f) max25
  have hb : Below w.heap.size w (w.alloc (.cells A 41)) := growB _
  go_enter Tryd.func26, Tryd.ntmps26
  go_wp2_with (at_make; go_must (refine wpList_make_full _ rfl _ _ 22 rfl (w.heap.size + 1) 5 i _ 1 Tryd.underlying22 hi hz0 hz1 _ _ _ _ n rfl rfl (by omega) (by omega) (by rw [hz2]; omega) (by unfold maxLen; omega) (by simp) ?_))
  intro w1 hown hgr
  have hF : Fill 5 (w.alloc (.cells A 41)) (w.heap.size + 1) n (byF f) 0 w1 := by
    have h1 : (w.alloc (.cells A 41)).heap.size = w.heap.size + 1 := by simp
    have := Fill.start (w := w.alloc (.cells A 41)) (byF f) (by rw [h1]; exact hown) hgr
    rwa [h1] at this
  clear hown hgr
  generalize w.alloc (.cells A 41) = wb at hF r0 hb
  go_wp2
  go_loopw [10] (fun i wr => ∃ j : Nat, j ≤ n ∧ i = .int .i64 j ∧ Fill 5 wb (w.heap.size + 1) n (byF f) j wr) (fun i _ => n - (intOf i).toNat)
  case atStart => exact ⟨0, Nat.zero_le _, rfl, hF⟩
  case round =>
    obtain ⟨j, hj, rfl, hFj⟩ := hrel
    clear hF
    by_cases hlt : j < n
    · have hdt : decide ((j : Int) < (n : Int)) = true := decide_eq_true (by omega)
      have hjI : (j : Int) < n := by omega
      have r1 := r0.kept (hFj.2)
      go_wp2_with (refine wpList_load_row rfl 41 _ rfl rfl r1 _ Tryd.underlying41 rfl (arrInfo _) ?_)
      refine (byteAt_any _ f HF.out rfl j (by omega) _).mono ?_
      rintro e w2 ⟨rfl, hB⟩
      have hF2 := hFj.kept hB
      obtain ⟨hcj, hfj⟩ := hF2.cell hlt
      clear r1 hB hFj
      go_wp2
      go_roundw
      case rel => exact ⟨j + 1, by omega, by go_num, hF2.step rfl⟩
      case measure => simp [intOf]; omega
    · have hje : j = n := by omega
      subst hje
      go_wp2
      go_ret
      exact ⟨_, rfl, New.of_fill hFj hb⟩
end Go.Proofs.YtfiefohdceokdaaDoor

/- What the functions take and lastBlock of package sponge answer: one block taken in, and the last block. -/
namespace Go.Proofs.YtfiefohdceokdaaDoor
open Go.ChangeShapes Go.WideShapes Go.ChangeAt Go.RowKit
set_option linter.unusedSimpArgs false
set_option linter.unusedVariables false

/-! ### Lanes of bytes -/
theorem leN_noughts : ∀ n, leN (List.replicate n 0) = 0
  | 0 => rfl
  | n + 1 => by rw [List.replicate_succ, leN_cons, leN_noughts n]; rfl
theorem leN_pad (z : Nat) : ∀ l : List UInt8, leN (l ++ List.replicate z 0) = leN l
  | [] => by simpa [leN] using leN_noughts z
  | x :: xs => by rw [List.cons_append, leN_cons, leN_cons, leN_pad z xs]
theorem lane_any (l : List UInt8) (j : Nat) : leN (((l.drop (8 * j)).take (l.length - 8 * j)).take 8) = xbl (fun k => l.getD k 0) l.length j := by
  unfold xbl
  have e : (List.range 8).map (fun t => if 8 * j + t < l.length then l.getD (8 * j + t) 0 else 0) = (l.drop (8 * j)).take 8 ++ List.replicate (8 - (l.length - 8 * j)) 0 := by
    refine List.ext_getElem (by simp; omega) fun t h1 h2 => ?_
    have ht : t < 8 := by simpa using h1
    by_cases h : 8 * j + t < l.length
    · rw [List.getElem_append_left (by simp; omega)]
      simp [h]
    · rw [List.getElem_append_right (by simp; omega)]
      simp [h]
  rw [e, leN_pad, show (l.drop (8 * j)).take (l.length - 8 * j) = l.drop (8 * j) from List.take_of_length_le (by simp)]
theorem xbl_none (blk : Nat → UInt8) (r j : Nat) (h : r ≤ 8 * j) : xbl blk r j = 0 := by
  have e : (List.range 8).map (fun t => if 8 * j + t < r then blk (8 * j + t) else 0) = List.replicate 8 0 := by
    refine List.ext_getElem (by simp) fun t h1 h2 => ?_
    simp only [List.getElem_map, List.getElem_range, List.getElem_replicate]
    rw [if_neg (by omega)]
  unfold xbl
  rw [e, leN_noughts]
theorem arrV_congr {f g : Nat → Nat} (h : ∀ i, i < 25 → f i = g i) : arrV f = arrV g := by
  show Value.agg _ = Value.agg _
  rw [stL_congr h]
theorem arrV_F (f : Nat → Nat) (hf : ∀ i, f i < 18446744073709551616) : arrV (rdsL f 24) = arrV (rdsF f 24) := arrV_congr fun i hi => rdsL_eq f hf 24 (Nat.le_refl _) i hi

set_option maxRecDepth 100000 in
set_option maxHeartbeats 1000000 in
theorem take_any (A : Array Value) (f : Nat → Nat) (hf : ∀ i, f i < 18446744073709551616) (hA : A = ((stL f).map (Value.int .u64)).toArray) (vb : Value) (l : List UInt8) (hl : l.length ≤ 200) (w : World) (hr : Rd w vb l) (ht : Tabs w) :
    Calls Tryd.prog 31 #[.agg A, vb] w fun e w' => e = .returned (arrV (tkF f (fun k => l.getD k 0) l.length)) ∧ Below w.heap.size w w' := by
  have HA : Hid _ := hA
  have HF : Hid (∀ i, f i < 18446744073709551616) := hf
  obtain ⟨a, cap, rfl, h2, h3, h4, -⟩ := id hr
  have HR : Hid (Rd w (.slice a l.length cap) l) := hr
  clear hA hf hr
  obtain ⟨n, hn⟩ : ∃ n : Nat, n = (l.length + 7) / 8 := ⟨_, rfl⟩
  have q1 : IntKind.i64.wrap ((l.length : Int) + 8) = (l.length : Int) + 8 := IntWalk.i64_in _ (by omega)
  have q2 : IntKind.i64.wrap ((l.length : Int) + 8 - 1) = (l.length : Int) + 8 - 1 := IntWalk.i64_in _ (by omega)
  have q3 : ((l.length : Int) + 8 - 1).tdiv 8 = (n : Int) := by rw [Int.tdiv_eq_ediv_of_nonneg (by omega)]; omega
  have q4 : IntKind.i64.wrap (n : Int) = (n : Int) := IntWalk.i64_in _ (by omega)
  go_enter Tryd.func31, Tryd.ntmps31
  go_wp2
  rw [HA.out]
  obtain ⟨W, hW, hI, hs⟩ := two_rows f w _ zeros25 ht
  rw [hW]
  clear hW ht q1 q2 q3 q4
  go_loopw [11] (fun i wr => ∃ j : Nat, j ≤ n ∧ i = .int .i64 j ∧ KI w (upQ f (fun k => f k ^^^ xbl (fun k => l.getD k 0) l.length k) j) wr) (fun i _ => n - (intOf i).toNat)
  case atStart => exact ⟨0, by omega, rfl, by have e := upQ_zero f (fun k => f k ^^^ xbl (fun k => l.getD k 0) l.length k); exact ⟨e ▸ hI.a, hI.r, hI.b, hI.t, hI.two⟩⟩
  case round =>
    obtain ⟨j, hj, rfl, hI2⟩ := hrel
    clear hI hs
    by_cases hlt : j < n
    · have hd : decide ((j : Int) < (n : Int)) = true := decide_eq_true (by omega)
      have hjn : (j : Int) < n := by omega
      have hjI : (j : Int) < 25 := by omega
      have w8 : IntKind.i64.wrap (8 * (j : Int)) = 8 * (j : Int) := IntWalk.i64_in _ (by omega)
      have n8 : (8 * (j : Int)).toNat = 8 * j := by omega
      have hle : 8 * (j : Int) ≤ (l.length : Int) := by omega
      have hge : (0 : Int) ≤ 8 * (j : Int) := by omega
      have hcn : ¬ cap = 8 * j := by omega
      have hc := hI2.a.cell (j := j) (by rw [stL_length]; omega)
      have hcf := hI2.a.free j
      rw [stL_get _ j (by omega), upQ_get] at hc
      have hq := HF.out j
      obtain ⟨b, off, rfl⟩ : ∃ b off, a = some ⟨b, off, none⟩ := by
        obtain ⟨b, off, cp, e1, _⟩ := HR.out.cellAt (i := 0) (by omega)
        simp only [Value.slice.injEq] at e1
        exact ⟨b, off, e1.1⟩
      have hR1 := (HR.out.kept hI2.b).sub (8 * j) l.length (by omega) (Nat.le_refl _)
      have HLn : Hid _ := lane_any l j
      have HS : Hid (∀ x : Int, x = ((f j ^^^ xbl (fun k => l.getD k 0) l.length j : Nat) : Int) → KI w (upQ f (fun k => f k ^^^ xbl (fun k => l.getD k 0) l.length k) (j + 1)) (wr.setCell ⟨w.heap.size, j, none⟩ (.int .u64 x))) := by
        intro x hx
        exact hI2.set j x (by rw [hx]; exact upQ_set f (fun k => f k ^^^ xbl (fun k => l.getD k 0) l.length k) j)
      have HX : Hid _ := xorI (f j) (xbl (fun k => l.getD k 0) l.length j) hq (xbl_lt _ _ _)
      generalize f j = q0 at hc hq HX HS
      clear hI2
      go_wp2_with fail
      refine wpE_begin 10 (by kernel_rfl) ?_
      refine eU_ 0 rfl ⟨_, by intro W hW; go_simp <;> with_reducible rfl, ?_⟩
      try simp only [Act.put, pA_, pB_, pC_]
      refine eU_ 1 rfl ⟨_, by intro W hW; go_simp <;> with_reducible rfl, ?_⟩
      try simp only [Act.put, pA_, pB_, pC_]
      refine eU_ 2 rfl ⟨_, by intro W hW; have hcW := cellU hc hW; go_simp <;> with_reducible rfl, ?_⟩
      try simp only [Act.put, pA_, pB_, pC_]
      refine eU_ 3 rfl ⟨_, by intro W hW; go_simp <;> with_reducible rfl, ?_⟩
      try simp only [Act.put, pA_, pB_, pC_]
      refine eU_ 4 rfl ⟨_, by intro W hW; go_simp <;> with_reducible rfl, ?_⟩
      try simp only [Act.put, pA_, pB_, pC_]
      refine eU_ 5 rfl ⟨_, by intro W hW; go_simp <;> with_reducible rfl, ?_⟩
      try simp only [Act.put, pA_, pB_, pC_]
      refine eU_ 6 rfl ⟨_, by intro W hW; go_simp <;> with_reducible rfl, ?_⟩
      try simp only [Act.put, pA_, pB_, pC_]
      refine eD_ 7 fun K hK => ?_
      go_simp
      refine (load_any _ _ _ hR1.drew).mono ?_
      rintro e w' ⟨rfl, rfl⟩
      refine hK.out _ _ (Below.refl _ _) ?_
      clear hK K
      try simp only [Act.put, pA_, pB_, pC_]
      refine eU_ 8 rfl ⟨_, by intro W hW; go_simp <;> with_reducible rfl, ?_⟩
      try simp only [Act.put, pA_, pB_, pC_]
      refine eU_ 9 rfl ⟨_, by intro W hW; go_simp <;> with_reducible rfl, ?_⟩
      try simp only [Act.put, pA_, pB_, pC_]
      refine eL_ fun K hK => ?_
      go_simp
      refine hK.out _ _ ?_
      clear hK K
      try simp only [Act.put, pA_, pB_, pC_]
      rw [HLn.out, HX.out]
      have hI3 := (HS.out _ rfl).drew
      go_wp2
      go_roundw
      case rel => exact ⟨j + 1, by omega, by go_num, hI3⟩
      case measure => simp [intOf]; omega
    · have hd0 : decide ((j : Int) < (n : Int)) = false := decide_eq_false (by omega)
      have hj0 : (n : Int) ≤ j := by omega
      have r1 := hI2.a
      have e1 : stL (upQ f (fun k => f k ^^^ xbl (fun k => l.getD k 0) l.length k) j) = stL (fun k => f k ^^^ xbl (fun k => l.getD k 0) l.length k) := stL_congr fun i hi => by
        unfold upQ
        split
        · rfl
        · rw [xbl_none _ _ _ (by omega), Nat.xor_zero]
      rw [e1] at r1
      go_wp2_with (refine wpList_load_row rfl 41 _ rfl rfl r1 _ Tryd.underlying41 rfl (arrInfo _) ?_)
      have hlx : ∀ i, (fun k => f k ^^^ xbl (fun k => l.getD k 0) l.length k) i < 18446744073709551616 := fun i => xor_lt64 (HF.out i) (xbl_lt _ _ _)
      refine (kF_any _ _ hlx rfl _ hI2.t).mono ?_
      rintro e w2 ⟨rfl, hB⟩
      have r2 := (hI2.kept hB).r
      have hb2 := (hI2.kept hB).b
      rw [arrV_F _ hlx]
      clear r1 hI2 hB e1
      go_wp2_with (refine wpList_store_row rfl 41 _ _ rfl (stL (rdsF (fun k => f k ^^^ xbl (fun k => l.getD k 0) l.length k) 24)) rfl rfl r2 (by simp [stL_length]) (arrInfo _) ?_; intro w3 r3 hw)
      refine bodyPost_row (p := 4) (ty := 41) rfl rfl rfl r3 Tryd.underlying41 rfl (arrInfo _) ?_
      exact ⟨rfl, hw.below _ _ (by omega) hb2⟩
end Go.Proofs.YtfiefohdceokdaaDoor

/- What the functions lastBlock and Absorb of package sponge answer. -/
namespace Go.Proofs.YtfiefohdceokdaaDoor
open Go.ChangeShapes Go.WideShapes Go.ChangeAt Go.RowKit
set_option linter.unusedSimpArgs false
set_option linter.unusedVariables false

/-- The last block. -/
def lbF (r : Nat) (s : UInt8) (l : List UInt8) (k : Nat) : UInt8 := (if k < l.length then l.getD k 0 else if k = l.length then s else 0) ^^^ (if k = r - 1 then 128 else 0)
def lbL (r : Nat) (s : UInt8) (l : List UInt8) : List UInt8 := (List.range r).map (lbF r s l)
theorem lbL_length (r : Nat) (s : UInt8) (l : List UInt8) : (lbL r s l).length = r := by simp [lbL]
theorem lb_step (r : Nat) (s : UInt8) (l : List UInt8) (hl : l.length < r) (k : Nat) (hk : k < r) : ((l ++ List.replicate (r - l.length) (0 : UInt8)).set l.length s).getD k 0 = if k < l.length then l.getD k 0 else if k = l.length then s else 0 := by
  rw [List.getD_eq_getElem?_getD, List.getElem?_set]
  by_cases h : k < l.length
  · rw [if_pos h, if_neg (by omega), List.getElem?_append_left h, List.getD_eq_getElem?_getD]
  · rw [if_neg h]
    by_cases h2 : k = l.length
    · subst h2
      rw [if_pos rfl, if_pos (by simp; omega), if_pos rfl]
      rfl
    · rw [if_neg h2, if_neg (Ne.symm h2), List.getElem?_append_right (by omega), List.getElem?_replicate, if_pos (by omega)]
      rfl
theorem lb_done (r : Nat) (s : UInt8) (l : List UInt8) (hl : l.length < r) :
    ((l ++ List.replicate (r - l.length) (0 : UInt8)).set l.length s).set (r - 1) (((l ++ List.replicate (r - l.length) (0 : UInt8)).set l.length s).getD (r - 1) 0 ^^^ 128) = lbL r s l := by
  have hlen : ((l ++ List.replicate (r - l.length) (0 : UInt8)).set l.length s).length = r := by simp; omega
  refine List.ext_getElem (by rw [List.length_set, hlen, lbL_length]) fun k h1 h2 => ?_
  have hk : k < r := by rw [lbL_length] at h2; exact h2
  have e1 := lb_step r s l hl k hk
  have e3 : (lbL r s l)[k] = lbF r s l k := by simp [lbL]
  rw [e3, List.getElem_set]
  unfold lbF
  by_cases h : r - 1 = k
  · subst h
    rw [if_pos rfl, if_pos rfl, e1]
  · have e2 : ((l ++ List.replicate (r - l.length) (0 : UInt8)).set l.length s)[k]'(by rw [hlen]; exact hk) = ((l ++ List.replicate (r - l.length) (0 : UInt8)).set l.length s).getD k 0 := by
      rw [List.getD_eq_getElem?_getD, List.getElem?_eq_getElem (by rw [hlen]; exact hk)]
      rfl
    rw [if_neg h, if_neg (Ne.symm h), ← e1, UInt8.xor_zero]
    exact e2

set_option maxHeartbeats 1000000 in
theorem lastBlock_any (r : Nat) (h2 : r ≤ 200) (s : UInt8) (S : Int) (hS : S = (s.toNat : Int)) (vb : Value) (l : List UInt8) (hl : l.length < r) (w : World) (hr : Rd w vb l) :
    Calls Tryd.prog 32 #[.int .i64 (r : Int), .int .u8 S, vb] w fun e w' => ∃ v, e = .returned v ∧ New 5 w v (lbL r s l) w' := by
  subst hS
  obtain ⟨i, hi, hz0, hz1, hz2⟩ := info_parts info5
  have hsz : (Tryd.prog.info? 5).map (·.size) = some 1 := by kernel_rfl
  have HD : Hid _ := lb_done r s l hl
  obtain ⟨a, cap, rfl, h3, h4, h5, -⟩ := id hr
  go_enter Tryd.func32, Tryd.ntmps32
  go_wp2_with (at_make; go_must (refine wpList_make_full _ rfl _ _ 22 rfl w.heap.size 5 i _ 1 Tryd.underlying22 hi hz0 hz1 _ _ _ _ r rfl rfl (by omega) (by omega) (by rw [hz2]; omega) (by unfold maxLen; omega) (Nat.le_refl _) ?_))
  intro w1 hown hgr
  have hN := New.made hown hgr
  have hr1 := hr.kept hN.2
  clear hown hgr hr
  go_wp2_with (refine wpList_copy_new (w := w) rfl _ _ 22 rfl 5 Tryd.underlying22 hsz _ _ rfl hN _ _ rfl hr1 (by simp; omega) (by intro h; simp at h; omega) ?_)
  intro w2 hN2
  clear hN hr1
  have hlen2 : r = (l ++ List.replicate (r - l.length) (0 : UInt8)).length := by simp; omega
  obtain ⟨g, eg, hg, -, hc, hfz, hset⟩ := own_at hlen2 hN2.1 (j := l.length) hl
  simp only [Option.some.injEq, Addr.mk.injEq, and_true] at eg
  subst eg
  have hN3 : New 5 w (.slice (some ⟨w.heap.size, 0, none⟩) r r) ((l ++ List.replicate (r - l.length) (0 : UInt8)).set l.length s) (w2.setCell ⟨w.heap.size, l.length, none⟩ (.int .u8 (s.toNat : Int))) := ⟨hset s _ rfl, hN2.2.setCell (Nat.le_refl _) _⟩
  have hlI : (l.length : Int) < r := by omega
  obtain ⟨p, hp⟩ : ∃ p : Nat, p = r - 1 := ⟨_, rfl⟩
  have wp1 : IntKind.i64.wrap ((r : Int) - 1) = (p : Int) := by rw [IntWalk.i64_in _ (by omega)]; omega
  have hpI : (p : Int) < r := by omega
  rw [← hp] at HD
  have hlen3 : r = ((l ++ List.replicate (r - l.length) (0 : UInt8)).set l.length s).length := by rw [List.length_set]; exact hlen2
  obtain ⟨g, eg, hg3, -, hc3, hfz3, hset3⟩ := own_at hlen3 hN3.1 (j := p) (by omega)
  simp only [Option.some.injEq, Addr.mk.injEq, and_true] at eg
  subst eg
  have hN4 := hset3 _ _ (byte_xor (((l ++ List.replicate (r - l.length) (0 : UInt8)).set l.length s).getD p 0) 128)
  rw [HD.out] at hN4
  have hb4 := hN3.2.setCell (p := ⟨w.heap.size, p, none⟩) (Nat.le_refl _) (.int .u8 (bits .xor .u8 (((((l ++ List.replicate (r - l.length) (0 : UInt8)).set l.length s).getD p 0).toNat : Nat) : Int) (((128 : UInt8).toNat : Nat) : Int)))
  generalize ((l ++ List.replicate (r - l.length) (0 : UInt8)).set l.length s).getD p 0 = x at hc3 hN4 hb4
  have HN : Hid (New 5 w (.slice (some ⟨w.heap.size, 0, none⟩) r r) (lbL r s l) ((w2.setCell ⟨w.heap.size, l.length, none⟩ (.int .u8 (s.toNat : Int))).setCell ⟨w.heap.size, p, none⟩ (.int .u8 (bits .xor .u8 ((x.toNat : Nat) : Int) (((128 : UInt8).toNat : Nat) : Int))))) := ⟨hN4, hb4⟩
  clear HD hset hset3 hN2 hN3 hN4 hb4 hlen2 hlen3 hp
  go_wp2
  go_ret
  exact ⟨_, rfl, HN.out⟩

/-- Absorb on its way: its result's block, its state's, the tables, and all that was there before. -/
structure AI (w : World) (F : Nat → Nat) (wr : World) : Prop where
  a : RowAt .u64 41 w.heap.size 25 (stL fun _ => 0) wr
  r : RowAt .u64 41 (w.heap.size + 1) 25 (stL F) wr
  b : Below w.heap.size w wr
  t : Tabs wr
  two : 1 < w.heap.size
theorem AI.drew {w wr : World} {F : Nat → Nat} (h : AI w F wr) : AI w F wr.drew := ⟨h.a.drew, h.r.drew, h.b.drew, h.t.kept (Below.refl _ _).drew, h.two⟩
theorem AI.kept {w wr w2 : World} {F : Nat → Nat} (h : AI w F wr) (hb : Below wr.heap.size wr w2) : AI w F w2 := ⟨h.a.kept hb, h.r.kept hb, stepB h.b hb, h.t.kept hb, h.two⟩
theorem AI.whole {w wr w2 : World} {F G : Nat → Nat} (h : AI w F wr) (hr : RowAt .u64 41 (w.heap.size + 1) 25 (stL G) w2) (hw : Wrote (w.heap.size + 1) wr w2) : AI w G w2 :=
  ⟨h.a.wrote hw (by omega), hr, hw.below _ _ (by omega) h.b, h.t.wrote hw (by have := h.two; omega), h.two⟩

/-- What is left of a row of bytes behind its first ones. -/
theorem Rd.rest {w : World} {b off n cap : Nat} {l : List UInt8} (h : Rd w (.slice (some ⟨b, off, none⟩) n cap) l) (r : Nat) (hr : r ≤ n) :
    Rd w (.slice (if cap = r then some ⟨b, off, none⟩ else some ⟨b, off + r, none⟩) (n - r) (cap - r)) (l.drop r) := by
  have hn : n = l.length := by
    obtain ⟨a, c, e, _⟩ := id h
    simp only [Value.slice.injEq] at e
    exact e.2.1
  by_cases hc : cap = r
  · rw [if_pos hc]
    have hcap : n ≤ cap := by
      obtain ⟨a, c, e, h2, _⟩ := id h
      simp only [Value.slice.injEq] at e
      omega
    have h0 : l.drop r = [] := List.drop_eq_nil_of_le (by omega)
    rw [h0, show n - r = 0 by omega, hc, Nat.sub_self]
    exact ⟨_, 0, rfl, by simp, by simp, fun _ => rfl, .inl rfl⟩
  · rw [if_neg hc]
    have := h.sub r n hr (Nat.le_refl _)
    rwa [List.take_of_length_le (by rw [List.length_drop]; omega)] at this

theorem absorb_zero (R S : Int) (h : ¬ (1 ≤ R ∧ R ≤ 200)) (vb : Value) (w : World) :
    Calls Tryd.prog 27 #[.int .i64 R, .int .u8 S, vb] w fun e w' => e = .returned (arrV fun _ => 0) ∧ Below w.heap.size w w' := by
  have r0 : RowAt .u64 41 w.heap.size 25 (stL fun _ => 0) (w.alloc (.cells #[Value.int .u64 0, .int .u64 0, .int .u64 0, .int .u64 0, .int .u64 0, .int .u64 0, .int .u64 0, .int .u64 0, .int .u64 0, .int .u64 0, .int .u64 0, .int .u64 0, .int .u64 0, .int .u64 0, .int .u64 0, .int .u64 0, .int .u64 0, .int .u64 0, .int .u64 0, .int .u64 0, .int .u64 0, .int .u64 0, .int .u64 0, .int .u64 0, .int .u64 0] 41)) := RowAt.fresh (stL fun _ => 0) zeros25 rfl (stL_length _).symm (stL_ne _) max25
  have r1 : RowAt .u64 41 (w.heap.size + 1) 25 (stL fun _ => 0) ((w.alloc (.cells #[Value.int .u64 0, .int .u64 0, .int .u64 0, .int .u64 0, .int .u64 0, .int .u64 0, .int .u64 0, .int .u64 0, .int .u64 0, .int .u64 0, .int .u64 0, .int .u64 0, .int .u64 0, .int .u64 0, .int .u64 0, .int .u64 0, .int .u64 0, .int .u64 0, .int .u64 0, .int .u64 0, .int .u64 0, .int .u64 0, .int .u64 0, .int .u64 0, .int .u64 0] 41)).alloc (.cells #[Value.int .u64 0, .int .u64 0, .int .u64 0, .int .u64 0, .int .u64 0, .int .u64 0, .int .u64 0, .int .u64 0, .int .u64 0, .int .u64 0, .int .u64 0, .int .u64 0, .int .u64 0, .int .u64 0, .int .u64 0, .int .u64 0, .int .u64 0, .int .u64 0, .int .u64 0, .int .u64 0, .int .u64 0, .int .u64 0, .int .u64 0, .int .u64 0, .int .u64 0] 41)) := RowAt.fresh (stL fun _ => 0) zeros25 (by simp) (stL_length _).symm (stL_ne _) max25
  have hb := stepB (growB (w := w) (.cells #[Value.int .u64 0, .int .u64 0, .int .u64 0, .int .u64 0, .int .u64 0, .int .u64 0, .int .u64 0, .int .u64 0, .int .u64 0, .int .u64 0, .int .u64 0, .int .u64 0, .int .u64 0, .int .u64 0, .int .u64 0, .int .u64 0, .int .u64 0, .int .u64 0, .int .u64 0, .int .u64 0, .int .u64 0, .int .u64 0, .int .u64 0, .int .u64 0, .int .u64 0] 41)) (growB (.cells #[Value.int .u64 0, .int .u64 0, .int .u64 0, .int .u64 0, .int .u64 0, .int .u64 0, .int .u64 0, .int .u64 0, .int .u64 0, .int .u64 0, .int .u64 0, .int .u64 0, .int .u64 0, .int .u64 0, .int .u64 0, .int .u64 0, .int .u64 0, .int .u64 0, .int .u64 0, .int .u64 0, .int .u64 0, .int .u64 0, .int .u64 0, .int .u64 0, .int .u64 0] 41))
  have r2 := r0.kept (growB (.cells #[Value.int .u64 0, .int .u64 0, .int .u64 0, .int .u64 0, .int .u64 0, .int .u64 0, .int .u64 0, .int .u64 0, .int .u64 0, .int .u64 0, .int .u64 0, .int .u64 0, .int .u64 0, .int .u64 0, .int .u64 0, .int .u64 0, .int .u64 0, .int .u64 0, .int .u64 0, .int .u64 0, .int .u64 0, .int .u64 0, .int .u64 0, .int .u64 0, .int .u64 0] 41))
  have h' : (R < 1 ∧ decide (R < 1) = true) ∨ (200 < R ∧ decide (R < 1) = false ∧ decide (200 < R) = true) := by
    by_cases h1 : R < 1
    · exact .inl ⟨h1, decide_eq_true h1⟩
    · exact .inr ⟨by omega, decide_eq_false h1, decide_eq_true (by omega)⟩
  rcases h' with ⟨h1, d1⟩ | ⟨h1, d0, d1⟩
  all_goals
    go_enter Tryd.func27, Tryd.ntmps27
    go_wp2_with (first | refine wpList_load_row rfl 41 _ rfl rfl r1 _ Tryd.underlying41 rfl (arrInfo _) ?_ | (refine wpList_store_row rfl 41 _ _ rfl (stL fun _ => 0) rfl rfl r2 (by simp [stL_length]) (arrInfo _) ?_; intro w3 r3 hw))
    refine bodyPost_row (p := 6) (ty := 41) rfl rfl rfl r3 Tryd.underlying41 rfl (arrInfo _) ?_
    exact ⟨rfl, hw.below _ _ (Nat.le_refl _) hb⟩
end Go.Proofs.YtfiefohdceokdaaDoor

/- What Absorb of package sponge answers: the document's. -/
namespace Go.Proofs.YtfiefohdceokdaaDoor
open Go.ChangeShapes Go.WideShapes Go.ChangeAt Go.RowKit
set_option linter.unusedSimpArgs false
set_option linter.unusedVariables false

theorem lb_las (r : Nat) (s : UInt8) (l : List UInt8) (hr : 0 < r) (k : Nat) (hk : k < r) : (lbL r s (l.drop (l.length / r * r))).getD k 0 = lasB r s l k := by
  have h0 := Nat.div_add_mod l.length r
  rw [Nat.mul_comm] at h0
  have e1 : (l.drop (l.length / r * r)).length = l.length % r := by simp; omega
  unfold lbL lasB
  rw [show ((List.range r).map (lbF r s (l.drop (l.length / r * r)))).getD k 0 = lbF r s (l.drop (l.length / r * r)) k by simp [hk]]
  unfold lbF
  rw [e1]
  congr 1
  by_cases h : k < l.length % r
  · rw [if_pos h, if_pos h]
    simp
  · rw [if_neg h, if_neg h]

/-- The state in the program's block and the tables, as the loop finds them. -/
theorem absorb_start (w : World) (cs : Array Value) (hcs : cs = ((stL fun _ => 0).map (Value.int .u64)).toArray) (t : Tabs w) :
    ∃ W, (w.alloc (.cells cs 41)).alloc (.cells cs 41) = W ∧ AI w (fun _ => 0) W := by
  subst hcs
  obtain ⟨W, hW, hI, hs⟩ := two_rows (fun _ => 0) w _ rfl t
  exact ⟨W, hW, ⟨hI.a, hI.r, hI.b, hI.t, hI.two⟩⟩

set_option maxRecDepth 100000 in
set_option maxHeartbeats 2000000 in
theorem absorb_at (r : Nat) (h1 : 1 ≤ r) (h2 : r ≤ 200) (s : UInt8) (S : Int) (hS : S = (s.toNat : Int)) (vb : Value) (l : List UInt8) (w : World) (hr : Rd w vb l) (ht : Tabs w) :
    Calls Tryd.prog 27 #[.int .i64 (r : Int), .int .u8 S, vb] w fun e w' => e = .returned (arrV (tkF (fuN r l (l.length / r)) (lasB r s l) r)) ∧ Below w.heap.size w w' := by
  subst hS
  obtain ⟨a, cap, rfl, h3, h4, h5, -⟩ := id hr
  have hmx := hr.len
  unfold maxLen at h4
  have HR : Hid (Rd w (.slice a l.length cap) l) := hr
  clear hr
  obtain ⟨q, hq⟩ : ∃ q : Nat, q = l.length / r := ⟨_, rfl⟩
  have hqr : q * r ≤ l.length := by rw [hq]; exact Nat.div_mul_le_self _ _
  have hqm : l.length - q * r < r := by
    have e0 := Nat.div_add_mod l.length r
    have e1 := Nat.mod_lt l.length (show 0 < r by omega)
    rw [Nat.mul_comm, ← hq] at e0
    omega
  have hq1 : q ≤ l.length := Nat.le_trans (Nat.le_mul_of_pos_right q (by omega)) hqr
  have q3 : ((l.length : Int)).tdiv (r : Int) = (q : Int) := by rw [Int.tdiv_eq_ediv_of_nonneg (by omega), hq]; rfl
  have q4 : IntKind.i64.wrap (q : Int) = (q : Int) := IntWalk.i64_in _ (by omega)
  have d1 : decide ((r : Int) < 1) = false := decide_eq_false (by omega)
  have d2 : decide ((200 : Int) < (r : Int)) = false := decide_eq_false (by omega)
  have g1 : (1 : Int) ≤ r := by omega
  have g2 : (r : Int) ≤ 200 := by omega
  have g3 : ¬ (r : Int) = 0 := by omega
  rw [← hq]
  have HQ : Hid (q = l.length / r) := hq
  clear hq
  go_enter Tryd.func27, Tryd.ntmps27
  go_wp2
  obtain ⟨W, hW, hI⟩ := absorb_start w _ zeros25 ht
  rw [hW]
  clear hW ht q3 q4 d1 d2
  go_loopw [19, 2] (fun i b wr => ∃ j : Nat, j ≤ q ∧ i = .int .i64 j ∧ Rd w b (l.drop (j * r)) ∧ AI w (fuN r l j) wr) (fun i _ _ => q - (intOf i).toNat)
  case atStart => exact ⟨0, by omega, rfl, by rw [Nat.zero_mul, List.drop_zero]; exact HR.out, hI⟩
  case round =>
    obtain ⟨j, hj, rfl, hR, hI2⟩ := hrel
    clear hI HR
    obtain ⟨a2, cap2, rfl, k2, k3, k4, -⟩ := id hR
    obtain ⟨n, hn⟩ : ∃ n : Nat, n = (l.drop (j * r)).length := ⟨_, rfl⟩
    have hjr : j * r ≤ q * r := Nat.mul_le_mul_right r hj
    have hn' : n = l.length - j * r := by rw [hn, List.length_drop]
    rw [← hn] at hR k2 ⊢
    unfold maxLen at k3
    have HN : Hid (n = (l.drop (j * r)).length) := hn
    have HN' : Hid (n = l.length - j * r) := hn'
    have hnr : n + j * r = l.length := by omega
    have HNR : Hid (n + j * r = l.length) := hnr
    clear hn hn'
    by_cases hlt : j < q
    · have hd : decide ((j : Int) < (q : Int)) = true := decide_eq_true (by omega)
      have hjq : (j : Int) < q := by omega
      have hjr1 : (j + 1) * r ≤ q * r := Nat.mul_le_mul_right r hlt
      rw [Nat.add_mul, Nat.one_mul] at hjr1
      have hrn : r ≤ n := by omega
      clear hnr
      obtain ⟨b, off, rfl⟩ : ∃ b off, a2 = some ⟨b, off, none⟩ := by
        obtain ⟨b, off, cp, e1, _⟩ := hR.cellAt (i := 0) (by rw [← HN.out]; omega)
        simp only [Value.slice.injEq] at e1
        exact ⟨b, off, e1.1⟩
      have hT := (hR.kept hI2.b).take (n := r) hrn
      have hlen : ((l.drop (j * r)).take r).length = r := by rw [List.length_take, ← HN.out]; omega
      have HT : Hid (arrV (tkF (fuN r l j) (fun k => ((l.drop (j * r)).take r).getD k 0) ((l.drop (j * r)).take r).length) = arrV (fuN r l (j + 1))) := by
        rw [hlen]
        exact arrV_congr (tkF_congr r (fun _ _ => rfl) fun k hk => by simp [hk])
      have hP := hR.rest r hrn
      rw [List.drop_drop, show j * r + r = (j + 1) * r by rw [Nat.add_mul, Nat.one_mul]] at hP
      have HP : Hid _ := hP
      have hrc : (r : Int) ≤ cap2 := by omega
      have hrnI : (r : Int) ≤ n := by omega
      have r1 := hI2.r
      clear hR hP
      go_wp2_with fail
      refine wpE_begin 5 (by kernel_rfl) ?_
      refine eU_ 0 rfl ⟨_, by intro W hW; refine Eq.trans (exec_load_row 41 _ (by rfl) (by rfl) r1 hW _ Tryd.underlying41 rfl (arrInfo _)) ?_; with_reducible rfl, ?_⟩
      try simp only [Act.put, pA_, pB_, pC_]
      refine eU_ 1 rfl ⟨_, by intro W hW; go_simp <;> with_reducible rfl, ?_⟩
      try simp only [Act.put, pA_, pB_, pC_]
      refine eU_ 2 rfl ⟨_, by intro W hW; go_simp <;> with_reducible rfl, ?_⟩
      try simp only [Act.put, pA_, pB_, pC_]
      refine eU_ 3 rfl ⟨_, by intro W hW; go_simp <;> with_reducible rfl, ?_⟩
      try simp only [Act.put, pA_, pB_, pC_]
      refine eD_ 4 fun K hK => ?_
      go_simp
      refine (take_any _ (fuN r l j) (fuN_lt r l j) rfl _ _ (by rw [hlen]; omega) _ hT.drew hI2.drew.t).mono ?_
      rintro e w2 ⟨rfl, hB2⟩
      refine hK.out _ _ hB2 ?_
      clear hK K
      have hI3 := hI2.drew.kept hB2
      have r3 := hI3.r
      rw [HT.out]
      try simp only [Act.put, pA_, pB_, pC_]
      refine eL_ fun K hK => ?_
      refine wp_store_row 41 _ _ (by rfl) (stL (fuN r l (j + 1))) (by rfl) (by rfl) r3 (by simp [stL_length]) (arrInfo _) ?_
      intro w4 r4 hw4
      refine hK.out _ _ ?_
      clear hK K
      try simp only [Act.put, pA_, pB_, pC_]
      have hI4 := hI3.whole r4 hw4
      clear r1 r3 r4 hw4 hI2 hI3 hB2 hT
      by_cases hcr : cap2 = r
      · have hcrI : (cap2 : Int) = r := by omega
        rw [if_pos hcr, hcr, Nat.sub_self] at HP
        go_wp2
        go_roundw
        case rel => exact ⟨j + 1, by omega, by go_num, HP.out, hI4⟩
        case measure => simp [intOf]; omega
      · rw [if_neg hcr] at HP
        go_wp2
        go_roundw
        case rel => exact ⟨j + 1, by omega, by go_num, HP.out, hI4⟩
        case measure => simp [intOf]; omega
    · have hje : j = q := by omega
      have hd : decide ((j : Int) < (q : Int)) = false := decide_eq_false (by omega)
      have hjq : (q : Int) ≤ j := by omega
      have HJ : Hid (j = q) := hje
      have hR1 := hR.kept hI2.b
      have hln : (l.drop (j * r)).length < r := by rw [← HN.out, HN'.out, hje]; exact hqm
      have r1 := hI2.r
      clear hje hR hnr
      go_wp2_with fail
      refine wpE_begin 6 (by kernel_rfl) ?_
      refine eU_ 0 rfl ⟨_, by intro W hW; refine Eq.trans (exec_load_row 41 _ (by rfl) (by rfl) r1 hW _ Tryd.underlying41 rfl (arrInfo _)) ?_; with_reducible rfl, ?_⟩
      try simp only [Act.put, pA_, pB_, pC_]
      refine eU_ 1 rfl ⟨_, by intro W hW; go_simp <;> with_reducible rfl, ?_⟩
      try simp only [Act.put, pA_, pB_, pC_]
      refine eU_ 2 rfl ⟨_, by intro W hW; go_simp <;> with_reducible rfl, ?_⟩
      try simp only [Act.put, pA_, pB_, pC_]
      refine eU_ 3 rfl ⟨_, by intro W hW; go_simp <;> with_reducible rfl, ?_⟩
      try simp only [Act.put, pA_, pB_, pC_]
      refine eD_ 4 fun K hK => ?_
      go_simp
      refine (lastBlock_any r h2 s _ rfl _ (l.drop (j * r)) hln _ hR1.drew).mono ?_
      rintro e w2 ⟨v2, rfl, hN2⟩
      refine hK.out _ _ hN2.2 ?_
      clear hK K
      have hI3 := hI2.drew.kept hN2.2
      have hR2 := hN2.rd
      try simp only [Act.put, pA_, pB_, pC_]
      refine eD_ 5 fun K hK => ?_
      go_simp
      refine (take_any _ (fuN r l j) (fuN_lt r l j) rfl _ _ (by rw [lbL_length]; exact h2) _ hR2 hI3.t).mono ?_
      rintro e w3 ⟨rfl, hB3⟩
      refine hK.out _ _ hB3 ?_
      clear hK K
      have hI4 := hI3.kept hB3
      have r3 := hI4.a
      try simp only [Act.put, pA_, pB_, pC_]
      refine eL_ fun K hK => ?_
      refine wp_store_row 41 _ _ (by rfl) _ (by rfl) (by rfl) r3 (by simp [stL_length]) (arrInfo _) ?_
      intro w4 r4 hw4
      refine hK.out _ _ ?_
      clear hK K
      try simp only [Act.put, pA_, pB_, pC_]
      have hb4 := hw4.below _ _ (Nat.le_refl _) hI4.b
      go_wp2_with fail
      refine bodyPost_row (p := 6) (ty := 41) rfl rfl rfl r4 Tryd.underlying41 rfl (arrInfo _) ?_
      refine ⟨?_, hb4⟩
      rw [HJ.out, lbL_length]
      refine congrArg Ending.returned (arrV_congr (tkF_congr r (fun _ _ => rfl) fun k hk => ?_))
      rw [HQ.out]
      exact lb_las r s l (by omega) k hk

/-- Absorb, at any rate. -/
theorem absorb_any (R S : Int) (s : UInt8) (hS : S = (s.toNat : Int)) (vb : Value) (l : List UInt8) (w : World) (hr : Rd w vb l) (ht : Tabs w) :
    Calls Tryd.prog 27 #[.int .i64 R, .int .u8 S, vb] w fun e w' => e = .returned (arrV (abF R s l)) ∧ Below w.heap.size w w' := by
  by_cases h : 1 ≤ R ∧ R ≤ 200
  · obtain ⟨r, rfl⟩ : ∃ r : Nat, R = r := ⟨R.toNat, by omega⟩
    have e : arrV (abF (r : Int) s l) = arrV (tkF (fuN r l (l.length / r)) (lasB r s l) r) := by
      unfold abF
      rw [if_pos h, Int.toNat_natCast]
      exact arrV_congr fun k hk => abs_eq r s l (by omega) k hk
    rw [e]
    exact absorb_at r (by omega) (by omega) s S hS vb l w hr ht
  · have e : abF R s l = fun _ => 0 := by unfold abF; rw [if_neg h]
    rw [e]
    exact absorb_zero R S h vb w
end Go.Proofs.YtfiefohdceokdaaDoor

/- What the sums of package sponge answer, and what a thing that gives bytes without end is and gives. -/
namespace Go.Proofs.YtfiefohdceokdaaDoor
open Go.ChangeShapes Go.WideShapes Go.ChangeAt Go.RowKit
set_option linter.unusedSimpArgs false
set_option linter.unusedVariables false

theorem otL_first (f : Nat → Nat) (r n : Nat) (h : n ≤ r) : otL f r n = bsP f n := by
  unfold otL bsP
  refine List.map_congr_left fun k hk => ?_
  have := List.mem_range.1 hk
  unfold smF
  rw [Nat.div_eq_of_lt (by omega), Nat.mod_eq_of_lt (by omega)]
  rfl

set_option maxHeartbeats 400000 in
theorem sum256_any (vb : Value) (l : List UInt8) (w : World) (hr : Rd w vb l) (ht : Tabs w) :
    Calls Tryd.prog 23 #[vb] w fun e w' => ∃ v, e = .returned v ∧ New 5 w v (otL (abF 136 6 l) 136 32) w' := by
  go_enter Tryd.func23, Tryd.ntmps23
  go_wp2_with fail
  refine (absorb_any 136 6 6 rfl _ l _ hr ht).mono ?_
  rintro e w2 ⟨rfl, hB⟩
  go_wp2_with fail
  refine (first_any _ (abF 136 6 l) (abF_lt _ _ _) rfl 32 (by omega) _).mono ?_
  rintro e w3 ⟨v3, rfl, hN3⟩
  go_wp2
  go_ret
  rw [otL_first _ _ _ (by omega)]
  exact ⟨_, rfl, hN3.from hB⟩

end Go.Proofs.YtfiefohdceokdaaDoor

/- Small laws about strings made of bytes and about what stays. -/
namespace Go.Proofs.YtfiefohdceokdaaDoor
open Go.ChangeShapes Go.WideShapes Go.ChangeAt Go.RowKit
set_option linter.unusedSimpArgs false
set_option linter.unusedVariables false

theorem convS {w : World} {v : Value} {l : List UInt8} (h : Rd w v l) : (convert 22 9 v).run Tryd.prog w = .ok (.string ⟨l.toArray⟩) w := h.conv Tryd.underlying22 Tryd.underlying5 Tryd.underlying9
theorem Chg.past {g B : Nat} {a w w' : World} (h : Below B a w) (c : Chg (fun b => b = g) w w') (hB : B ≤ w.heap.size) (hg : B ≤ g) : Below B a w' := c.below h hB fun k _ e => by omega
theorem own_past {g : Nat} {w w' : World} {base : Nat} {e : TypeId} {v : Value} {n : Nat} {xs : List Value} (h : w.ownsRow base e 1 v n xs) (c : Chg (fun b => b = g) w w') (hg : g < base) : w'.ownsRow base e 1 v n xs :=
  own_chg h c fun b hb e => by
    have := (h.lt b hb).1
    omega
theorem New.slice {e : TypeId} {w w' : World} {v : Value} {l : List UInt8} (h : New e w v l w') (hl : l ≠ []) : ∃ g cap, v = .slice (some ⟨g, 0, none⟩) l.length cap ∧ l.length ≤ cap := by
  have hpos : 0 < l.length := List.length_pos_iff.2 hl
  rcases h.1.2 with ⟨h', h0⟩ | ⟨g, cap, cur, h', hb, hg, hn, hm, hs, ht⟩
  · omega
  · exact ⟨g, cap, h', hn⟩
end Go.Proofs.YtfiefohdceokdaaDoor
