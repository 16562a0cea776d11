/- What functions of the program, or of the reference, answer: contracts; several texts in one. -/
import Derived.Test.YtfiefohdceokdaaDoorBase
import Derived.Test.YtfiefohdceokdaaDoorKec
import Derived.Test.YtfiefohdceokdaaDoorRows

/- What the turning of a lane and the look at a round's number answer, and what the two tables hold: contracts of package keccak, first part. -/
namespace Go.Proofs.YtfiefohdceokdaaDoor
open Go.ChangeShapes Go.WideShapes Go.ChangeAt Go.RowKit
set_option linter.unusedSimpArgs false
set_option linter.unusedVariables false

theorem or_turn (x n : Nat) (hx : x < 18446744073709551616) (hn : n < 64) : (x * 2 ^ n % 18446744073709551616) ||| (x / 2 ^ (64 - n)) = turnN x n := by
  unfold turnN
  split
  · rename_i h
    subst h
    rw [Nat.pow_zero, Nat.mul_one, Nat.mod_eq_of_lt hx, Nat.div_eq_of_lt (by simpa using hx), Nat.or_zero]
  · unfold rotN
    have h64 : (18446744073709551616 : Nat) = 2 ^ n * 2 ^ (64 - n) := by rw [← Nat.pow_add, show n + (64 - n) = 64 by omega]
    have hB : x / 2 ^ (64 - n) < 2 ^ n := by
      refine Nat.div_lt_of_lt_mul ?_
      rw [Nat.mul_comm, ← h64]
      exact hx
    rw [h64, Nat.mul_comm x, Nat.mul_mod_mul_left, Nat.two_pow_add_eq_or_of_lt hB]
theorem and63 (n : Nat) (hn : n < 64) : bits .and .u64 (n : Int) 63 = (n : Int) := by
  have h := u64_and_nat n 63 (by omega) (by decide)
  rw [show ((63 : Int)) = ((63 : Nat) : Int) from rfl, h, show (63 : Nat) = 2 ^ 6 - 1 from rfl, Nat.and_two_pow_sub_one_eq_mod, Nat.mod_eq_of_lt (by omega)]

set_option maxHeartbeats 400000 in
theorem rot_any (x n : Nat) (X B : Int) (hX : X = x) (hB : B = n) (hx : x < 18446744073709551616) (hn : n < 64) (w : World) :
    Calls Tryd.prog 49 #[.int .u64 X, .int .i64 B] w fun e w' => e = .returned (.int .u64 ((turnN x n : Nat) : Int)) ∧ w' = w := by
  subst hX hB
  have ha := and63 n hn
  have HN : Hid (((64 : Int) - (n : Int)).toNat = 64 - n) := by show Int.toNat _ = _; omega
  have HE : Hid _ := or_turn x n hx hn
  go_enter Tryd.func49, Tryd.ntmps49
  go_wp2
  go_ret
  refine ⟨retI ?_, rfl⟩
  have e1 : ((x : Int) * 2 ^ n) = ((x * 2 ^ n : Nat) : Int) := by simp
  have e2 : ((x : Int) / 2 ^ (64 - n)) = ((x / 2 ^ (64 - n) : Nat) : Int) := by simp
  rw [e1, e2, IntKind.wrap_u64, show ((x * 2 ^ n : Nat) : Int) % 18446744073709551616 = ((x * 2 ^ n % 18446744073709551616 : Nat) : Int) by omega, u64_or_nat _ _ (Nat.mod_lt _ (by decide)) (Nat.lt_of_le_of_lt (Nat.div_le_self _ _) hx), HE.out]

theorem isRound_any (r : Int) (w : World) :
    Calls Tryd.prog 43 #[.int .i64 r] w fun e w' => e = .returned (.bool (decide (0 ≤ r ∧ r ≤ 23))) ∧ w' = w := by
  by_cases h0 : 0 ≤ r
  · have HE : Hid (decide (r < 24) = decide (0 ≤ r ∧ r ≤ 23)) := by
      show decide _ = decide _
      by_cases h : r < 24 <;> simp [h] <;> omega
    go_enter Tryd.func43, Tryd.ntmps43
    go_wp2
    go_ret
    exact ⟨congrArg (fun b => Ending.returned (.bool b)) HE.out, rfl⟩
  · have hd : decide (0 ≤ r) = false := decide_eq_false h0
    go_enter Tryd.func43, Tryd.ntmps43
    go_wp2
    go_ret
    exact ⟨rfl, rfl⟩

/-- By how much each lane is turned. -/
def trT : List Int := [0, 1, 62, 28, 27, 36, 44, 6, 55, 20, 3, 10, 43, 25, 39, 41, 45, 15, 21, 8, 18, 2, 61, 56, 14]
def ksT : List Int := kst.map fun x => ((x : Nat) : Int)
theorem trT_eq : ∀ i, i < 25 → trT.getD i 0 = ((if i = 0 then 0 else rhBy (rhTau i) : Nat) : Int) := by decide
theorem ksT_get (i : Nat) (hi : i < 24) : ksT.getD i 0 = ((kst.getD i 0 : Nat) : Int) := by
  have h : i < kst.length := hi
  simp [ksT, h]
/-- The two tables lie where the program laid them. -/
structure Tabs (w : World) : Prop where
  turns : ∀ i, i < 25 → w.cell? ⟨1, i, none⟩ = some (.int .i64 (trT.getD i 0))
  consts : ∀ i, i < 24 → w.cell? ⟨0, i, none⟩ = some (.int .u64 (ksT.getD i 0))
theorem Tabs.kept {w w' : World} (h : Tabs w) (hb : Below w.heap.size w w') : Tabs w' :=
  ⟨fun i hi => by rw [hb.cell (p := ⟨1, i, none⟩) (World.block_lt_of_cell? w _ (h.turns i hi))]; exact h.turns i hi,
   fun i hi => by rw [hb.cell (p := ⟨0, i, none⟩) (World.block_lt_of_cell? w _ (h.consts i hi))]; exact h.consts i hi⟩
theorem Tabs.two {w : World} (h : Tabs w) : 1 < w.heap.size := by
  have h1 : 1 < w.heap.size := World.block_lt_of_cell? w _ (h.turns 0 (by decide))
  have h2 : 0 < w.heap.size := World.block_lt_of_cell? w _ (h.consts 0 (by decide))
  omega
theorem Tabs.wrote {g : Nat} {w w' : World} (h : Tabs w) (hw : Wrote g w w') (hg : 1 < g) : Tabs w' := by
  have hb := hw.below (1 + 1) w hg (Below.refl _ _)
  exact ⟨fun i hi => by rw [hb.cell (p := ⟨1, i, none⟩) (by decide : (1 : Nat) < 1 + 1)]; exact h.turns i hi,
   fun i hi => by rw [hb.cell (p := ⟨0, i, none⟩) (by decide : (0 : Nat) < 1 + 1)]; exact h.consts i hi⟩
end Go.Proofs.YtfiefohdceokdaaDoor

/- What Iota and Rho answer: contracts of package keccak, second part. -/
namespace Go.Proofs.YtfiefohdceokdaaDoor
open Go.ChangeShapes Go.WideShapes Go.ChangeAt Go.RowKit
set_option linter.unusedSimpArgs false
set_option linter.unusedVariables false

theorem arrInfo (f : Nat → Nat) : (Tryd.prog.info? 41).map (·.size) = some (stL f).length := by rw [stL_length]; kernel_rfl
abbrev arrV (f : Nat → Nat) : Value := .agg ((stL f).map (Value.int .u64)).toArray
theorem zeros25 : #[Value.int .u64 0, .int .u64 0, .int .u64 0, .int .u64 0, .int .u64 0, .int .u64 0, .int .u64 0, .int .u64 0, .int .u64 0, .int .u64 0, .int .u64 0, .int .u64 0, .int .u64 0, .int .u64 0, .int .u64 0, .int .u64 0, .int .u64 0, .int .u64 0, .int .u64 0, .int .u64 0, .int .u64 0, .int .u64 0, .int .u64 0, .int .u64 0, .int .u64 0] = ((stL fun _ => 0).map (Value.int .u64)).toArray := by
  rw [← stL_zero]
  rfl
/-- A function on its way: its argument's block and its result's, the tables, and all that was there before. -/
structure KI (w : World) (F : Nat → Nat) (wr : World) : Prop where
  a : RowAt .u64 41 w.heap.size 25 (stL F) wr
  r : RowAt .u64 41 (w.heap.size + 1) 25 (stL fun _ => 0) wr
  b : Below w.heap.size w wr
  t : Tabs wr
  two : 1 < w.heap.size
theorem KI.drew {w wr : World} {F : Nat → Nat} (h : KI w F wr) : KI w F wr.drew := ⟨h.a.drew, h.r.drew, h.b.drew, h.t.kept (Below.refl _ _).drew, h.two⟩
theorem KI.kept {w wr w2 : World} {F : Nat → Nat} (h : KI w F wr) (hb : Below wr.heap.size wr w2) : KI w F w2 := ⟨h.a.kept hb, h.r.kept hb, stepB h.b hb, h.t.kept hb, h.two⟩
theorem KI.set {w wr : World} {F G : Nat → Nat} (h : KI w F wr) (j : Nat) (x : Int) (e : (stL F).set j x = stL G) : KI w G (wr.setCell ⟨w.heap.size, j, none⟩ (.int .u64 x)) := by
  have hw := Wrote.set w.heap.size j wr (.int .u64 x)
  have h1 := h.a.set j x
  rw [e] at h1
  exact ⟨h1, h.r.wrote hw (by omega), hw.below _ _ (Nat.le_refl _) h.b, h.t.wrote hw h.two, h.two⟩
theorem KI.alloc {w wr : World} {F : Nat → Nat} (h : KI w F wr) (o : Obj) : KI w F (wr.alloc o) := h.kept (growB o)
/-- Another block of the function's own is written. -/
theorem KI.other {w wr w2 : World} {F : Nat → Nat} {g : Nat} (h : KI w F wr) (hw : Wrote g wr w2) (hg : w.heap.size + 2 ≤ g) : KI w F w2 :=
  ⟨h.a.wrote hw (by omega), h.r.wrote hw (by omega), hw.below _ _ (by omega) h.b, h.t.wrote hw (by have := h.two; omega), h.two⟩
/-- The argument's block is written as a whole. -/
theorem KI.whole {w wr w2 : World} {F G : Nat → Nat} (h : KI w F wr) (hr : RowAt .u64 41 w.heap.size 25 (stL G) w2) (hw : Wrote w.heap.size wr w2) : KI w G w2 :=
  ⟨hr, h.r.wrote hw (by omega), hw.below _ _ (Nat.le_refl _) h.b, h.t.wrote hw h.two, h.two⟩
/-- The world behind a function's set-up. -/
theorem two_rows (f : Nat → Nat) (w : World) (cs : Array Value) (hcs : cs = ((stL fun _ => 0).map (Value.int .u64)).toArray) (t : Tabs w) :
    ∃ W, (w.alloc (.cells ((stL f).map (Value.int .u64)).toArray 41)).alloc (.cells cs 41) = W ∧ KI w f W ∧ W.heap.size = w.heap.size + 2 := by
  have r1 : RowAt .u64 41 w.heap.size 25 (stL f) (w.alloc (.cells ((stL f).map (Value.int .u64)).toArray 41)) := RowAt.fresh (stL f) rfl rfl (stL_length f).symm (stL_ne f) (by rw [stL_length]; simp [maxLen])
  have r2 : RowAt .u64 41 (w.heap.size + 1) 25 (stL fun _ => 0) ((w.alloc (.cells ((stL f).map (Value.int .u64)).toArray 41)).alloc (.cells cs 41)) := RowAt.fresh (stL fun _ => 0) hcs (by simp) (stL_length _).symm (stL_ne _) (by rw [stL_length]; simp [maxLen])
  have hb := stepB (growB (w := w) (.cells ((stL f).map (Value.int .u64)).toArray 41)) (growB (.cells cs 41))
  exact ⟨_, rfl, ⟨r1.kept (growB _), r2, hb, t.kept hb, t.two⟩, by simp⟩

set_option maxHeartbeats 400000 in
theorem kIota_out (A : Array Value) (f : Nat → Nat) (hA : A = ((stL f).map (Value.int .u64)).toArray) (r : Int) (hr : decide (0 ≤ r ∧ r ≤ 23) = false) (w : World) (ht : Tabs w) :
    Calls Tryd.prog 44 #[.agg A, .int .i64 r] w fun e w' => e = .returned (arrV f) ∧ Below w.heap.size w w' := by
  have HA : Hid _ := hA
  clear hA
  go_enter Tryd.func44, Tryd.ntmps44
  go_wp2_with fail
  rw [HA.out]
  obtain ⟨W, hW, hI, hs⟩ := two_rows f w _ zeros25 ht
  rw [hW]
  clear hW ht
  refine (isRound_any _ _).mono ?_
  rintro e w1 ⟨rfl, rfl⟩
  rw [hr]
  have r1 := hI.a
  have r2 := hI.r
  go_wp2_with (first | refine wpList_load_row rfl 41 _ rfl rfl r1 _ Tryd.underlying41 rfl (arrInfo _) ?_ | (refine wpList_store_row rfl 41 _ _ rfl (stL f) rfl rfl r2 (by simp [stL_length]) (arrInfo _) ?_; intro w2 r3 hw))
  refine bodyPost_row (p := 4) (ty := 41) rfl rfl rfl r3 Tryd.underlying41 rfl (arrInfo _) ?_
  exact ⟨rfl, hw.below _ _ (by omega) hI.b⟩

set_option maxHeartbeats 400000 in
theorem kIota_in (A : Array Value) (f : Nat → Nat) (hf : ∀ i, f i < 18446744073709551616) (hA : A = ((stL f).map (Value.int .u64)).toArray) (n : Nat) (hlt : n < 24) (w : World) (ht : Tabs w) :
    Calls Tryd.prog 44 #[.agg A, .int .i64 (n : Int)] w fun e w' => e = .returned (arrV (ioK f n)) ∧ Below w.heap.size w w' := by
  have hr : decide (0 ≤ (n : Int) ∧ (n : Int) ≤ 23) = true := decide_eq_true (by omega)
  have HA : Hid _ := hA
  clear hA
  go_enter Tryd.func44, Tryd.ntmps44
  go_wp2_with fail
  rw [HA.out]
  obtain ⟨W, hW, hI, hs⟩ := two_rows f w _ zeros25 ht
  rw [hW]
  clear hW ht
  refine (isRound_any _ _).mono ?_
  rintro e w1 ⟨rfl, rfl⟩
  rw [hr]
  clear hr
  have hlt2 : ((n : Nat) : Int) < 24 := by omega
  have hc := hI.a.cell (j := 0) (by rw [stL_length]; decide)
  have hcf := hI.a.free 0
  have hk := hI.t.consts n hlt
  rw [stL_get f 0 (by decide)] at hc
  rw [ksT_get n hlt] at hk
  have HS : Hid (∀ x : Int, x = ((f 0 ^^^ kst.getD n 0 : Nat) : Int) → KI w (ioK f n) (w1.setCell ⟨w.heap.size, 0, none⟩ (.int .u64 x))) := by
    intro x hx
    exact hI.set 0 x (by rw [hx]; exact ioKI f n)
  have HX : Hid _ := xorI (f 0) (kst.getD n 0) (hf 0) (kst_lt n hlt)
  generalize f 0 = q0 at hc HX HS
  generalize kst.getD n 0 = q1 at hk HX HS
  have HI : Hid _ := hI
  clear hI hf
  go_wp2_with fail
  refine wpE_begin 7 (by kernel_rfl) ?_
  refine eU_ 0 rfl ⟨_, by intro W hW; go_simp <;> with_reducible rfl, ?_⟩
  try simp only [Act.put, pA_, pB_, pC_]
  refine eU_ 1 rfl ⟨_, by intro W hW; have hcW := cellU hc hW; go_simp <;> with_reducible rfl, ?_⟩
  try simp only [Act.put, pA_, pB_, pC_]
  refine eU_ 2 rfl ⟨_, by intro W hW; go_simp <;> with_reducible rfl, ?_⟩
  try simp only [Act.put, pA_, pB_, pC_]
  refine eU_ 3 rfl ⟨_, by intro W hW; go_simp <;> with_reducible rfl, ?_⟩
  try simp only [Act.put, pA_, pB_, pC_]
  refine eU_ 4 rfl ⟨_, by intro W hW; have hcW := cellU hk hW; go_simp <;> with_reducible rfl, ?_⟩
  try simp only [Act.put, pA_, pB_, pC_]
  refine eU_ 5 rfl ⟨_, by intro W hW; go_simp <;> with_reducible rfl, ?_⟩
  try simp only [Act.put, pA_, pB_, pC_]
  refine eU_ 6 rfl ⟨_, by intro W hW; go_simp <;> with_reducible rfl, ?_⟩
  try simp only [Act.put, pA_, pB_, pC_]
  refine eL_ fun K hK => ?_
  go_simp
  refine hK.out _ _ ?_
  clear hK K
  try simp only [Act.put, pA_, pB_, pC_]

  have hI2 := HS.out _ HX.out
  have r1 := hI2.drew.a
  have r2 := hI2.drew.r
  go_wp2_with (first | refine wpList_load_row rfl 41 _ rfl rfl r1 _ Tryd.underlying41 rfl (arrInfo _) ?_ | (refine wpList_store_row rfl 41 _ _ rfl (stL (ioK f n)) rfl rfl r2 (by simp [stL_length]) (arrInfo _) ?_; intro w2 r3 hw))
  refine bodyPost_row (p := 4) (ty := 41) rfl rfl rfl r3 Tryd.underlying41 rfl (arrInfo _) ?_
  exact ⟨rfl, hw.below _ _ (by omega) hI2.drew.b⟩

/-- Iota, of any round's number. -/
def ioI (f : Nat → Nat) (r : Int) : Nat → Nat := if 0 ≤ r ∧ r ≤ 23 then ioK f r.toNat else f
theorem kIota_any (A : Array Value) (f : Nat → Nat) (hf : ∀ i, f i < 18446744073709551616) (hA : A = ((stL f).map (Value.int .u64)).toArray) (r : Int) (w : World) (ht : Tabs w) :
    Calls Tryd.prog 44 #[.agg A, .int .i64 r] w fun e w' => e = .returned (arrV (ioI f r)) ∧ Below w.heap.size w w' := by
  by_cases h : 0 ≤ r ∧ r ≤ 23
  · obtain ⟨n, rfl⟩ : ∃ n : Nat, r = n := ⟨r.toNat, by omega⟩
    have e : ioI f (n : Int) = ioK f n := by unfold ioI; rw [if_pos h, Int.toNat_natCast]
    rw [e]
    exact kIota_in A f hf hA n (by omega) w ht
  · have e : ioI f r = f := by unfold ioI; rw [if_neg h]
    rw [e]
    exact kIota_out A f hA r (decide_eq_false h) w ht
theorem ioI_lt (f : Nat → Nat) (hf : ∀ i, f i < 18446744073709551616) (r : Int) (k : Nat) : ioI f r k < 18446744073709551616 := by
  unfold ioI
  split
  · unfold ioK
    split
    · exact xor_lt64 (hf 0) (kst_lt _ (by omega))
    · exact hf k
  · exact hf k

def rhM (j : Nat) : Nat := if j = 0 then 0 else rhBy (rhTau j)
theorem rhM_lt (j : Nat) : rhM j < 64 := by
  unfold rhM
  split
  · decide
  · exact rhBy_lt _
theorem rhM_turn (f : Nat → Nat) (j : Nat) : turnN (f j) (rhM j) = rhL f j := by
  unfold rhM rhL
  by_cases h : j = 0
  · subst h; rfl
  · rw [if_neg h, if_neg h]

set_option maxHeartbeats 1000000 in
theorem kRho_any (A : Array Value) (f : Nat → Nat) (hf : ∀ i, f i < 18446744073709551616) (hA : A = ((stL f).map (Value.int .u64)).toArray) (w : World) (ht : Tabs w) :
    Calls Tryd.prog 47 #[.agg A] w fun e w' => e = .returned (arrV (rhL f)) ∧ Below w.heap.size w w' := by
  have HA : Hid _ := hA
  have HF : Hid (∀ i, f i < 18446744073709551616) := hf
  clear hA hf
  go_enter Tryd.func47, Tryd.ntmps47
  go_wp2
  rw [HA.out]
  obtain ⟨W, hW, hI, hs⟩ := two_rows f w _ zeros25 ht
  rw [hW]
  clear hW ht
  go_loopw [4] (fun i wr => ∃ j : Nat, j ≤ 25 ∧ i = .int .i64 j ∧ KI w (upQ f (rhL f) j) wr) (fun i _ => 25 - (intOf i).toNat)
  case atStart => exact ⟨0, by omega, rfl, by have e := upQ_zero f (rhL f); exact ⟨e ▸ hI.a, hI.r, hI.b, hI.t, hI.two⟩⟩
  case round =>
    obtain ⟨j, hj, rfl, hI2⟩ := hrel
    clear hI hs
    by_cases hlt : j < 25
    · have hd : decide ((j : Int) < 25) = true := decide_eq_true (by omega)
      have hjI : (j : Int) < 25 := by omega
      have hc := hI2.a.cell (j := j) (by rw [stL_length]; exact hlt)
      have hcf := hI2.a.free j
      have hk := hI2.t.turns j hlt
      rw [stL_get _ j hlt, upQ_get] at hc
      rw [trT_eq j hlt] at hk
      have HT : Hid _ := rhM_turn f j
      have hm := rhM_lt j
      have hq := HF.out j
      have HS : Hid (∀ x : Int, x = ((rhL f j : Nat) : Int) → KI w (upQ f (rhL f) (j + 1)) (wr.setCell ⟨w.heap.size, j, none⟩ (.int .u64 x))) := by
        intro x hx
        exact hI2.set j x (by rw [hx]; exact upQ_set f (rhL f) j)
      change wr.cell? ⟨1, j, none⟩ = some (.int .i64 ((rhM j : Nat) : Int)) at hk
      generalize f j = q0 at hc HT hq
      generalize rhM j = q1 at hk HT hm
      have HI : Hid _ := hI2
      clear hI2
      go_wp2_with fail
      refine wpE_begin 9 (by kernel_rfl) ?_
      refine eU_ 0 rfl ⟨_, by intro W hW; go_simp <;> with_reducible rfl, ?_⟩
      try simp only [Act.put, pA_, pB_, pC_]
      refine eU_ 1 rfl ⟨_, by intro W hW; go_simp <;> with_reducible rfl, ?_⟩
      try simp only [Act.put, pA_, pB_, pC_]
      refine eU_ 2 rfl ⟨_, by intro W hW; go_simp <;> with_reducible rfl, ?_⟩
      try simp only [Act.put, pA_, pB_, pC_]
      refine eU_ 3 rfl ⟨_, by intro W hW; have hcW := cellU hc hW; go_simp <;> with_reducible rfl, ?_⟩
      try simp only [Act.put, pA_, pB_, pC_]
      refine eU_ 4 rfl ⟨_, by intro W hW; go_simp <;> with_reducible rfl, ?_⟩
      try simp only [Act.put, pA_, pB_, pC_]
      refine eU_ 5 rfl ⟨_, by intro W hW; go_simp <;> with_reducible rfl, ?_⟩
      try simp only [Act.put, pA_, pB_, pC_]
      refine eU_ 6 rfl ⟨_, by intro W hW; have hcW := cellU hk hW; go_simp <;> with_reducible rfl, ?_⟩
      try simp only [Act.put, pA_, pB_, pC_]
      refine eD_ 7 fun K hK => ?_
      go_simp
      refine (rot_any q0 q1 _ _ rfl rfl hq hm _).mono ?_
      rintro e w' ⟨rfl, rfl⟩
      refine hK.out _ _ (Below.refl _ _) ?_
      clear hK K
      try simp only [Act.put, pA_, pB_, pC_]
      refine eU_ 8 rfl ⟨_, by intro W hW; go_simp <;> with_reducible rfl, ?_⟩
      try simp only [Act.put, pA_, pB_, pC_]
      refine eL_ fun K hK => ?_
      go_simp
      refine hK.out _ _ ?_
      clear hK K
      try simp only [Act.put, pA_, pB_, pC_]

      rw [HT.out]
      have hI3 := (HS.out _ rfl).drew
      go_wp2
      go_roundw
      case rel => exact ⟨j + 1, by omega, by go_num, hI3⟩
      case measure => simp [intOf]; omega
    · have hje : j = 25 := by omega
      subst hje
      have r1 := hI2.a
      rw [upQ_done] at r1
      have r2 := hI2.r
      go_wp2_with (first | refine wpList_load_row rfl 41 _ rfl rfl r1 _ Tryd.underlying41 rfl (arrInfo _) ?_ | (refine wpList_store_row rfl 41 _ _ rfl (stL (rhL f)) rfl rfl r2 (by simp [stL_length]) (arrInfo _) ?_; intro w2 r3 hw))
      refine bodyPost_row (p := 2) (ty := 41) rfl rfl rfl r3 Tryd.underlying41 rfl (arrInfo _) ?_
      exact ⟨rfl, hw.below _ _ (by omega) hI2.b⟩
end Go.Proofs.YtfiefohdceokdaaDoor

/- What Theta answers: a contract of package keccak, third part. -/
namespace Go.Proofs.YtfiefohdceokdaaDoor
open Go.ChangeShapes Go.WideShapes Go.ChangeAt Go.RowKit
set_option linter.unusedSimpArgs false
set_option linter.unusedVariables false

/-! ### Sums of columns, as far as they have come -/
def cS (f : Nat → Nat) : Nat → Nat → Nat
  | 0, _ => 0
  | j + 1, x => if j % 5 = x then cS f j x ^^^ f j else cS f j x
theorem cS_lt (f : Nat → Nat) (hf : ∀ i, f i < 18446744073709551616) : ∀ j x, cS f j x < 18446744073709551616
  | 0, _ => by simp [cS]
  | j + 1, x => by
    unfold cS
    split
    · exact xor_lt64 (cS_lt f hf j x) (hf j)
    · exact cS_lt f hf j x
theorem cS_done (f : Nat → Nat) (x : Nat) (hx : x < 5) : cS f 25 x = colN f x := by
  have h : x = 0 ∨ x = 1 ∨ x = 2 ∨ x = 3 ∨ x = 4 := by omega
  rcases h with rfl | rfl | rfl | rfl | rfl <;> simp [cS, colN]
def sL (f : Nat → Nat) (j : Nat) : List Int := (List.range 5).map fun x => ((cS f j x : Nat) : Int)
theorem sL_length (f : Nat → Nat) (j : Nat) : (sL f j).length = 5 := by simp [sL]
theorem sL_ne (f : Nat → Nat) (j : Nat) : sL f j ≠ [] := by
  intro h
  have := sL_length f j
  rw [h] at this
  simp at this
theorem sL_get (f : Nat → Nat) (j x : Nat) (hx : x < 5) : (sL f j).getD x 0 = ((cS f j x : Nat) : Int) := by simp [sL, hx]
theorem sL_set (f : Nat → Nat) (j : Nat) : (sL f j).set (j % 5) ((cS f j (j % 5) ^^^ f j : Nat) : Int) = sL f (j + 1) := by
  refine List.ext_getElem (by simp [sL]) fun i h1 h2 => ?_
  simp only [sL, List.getElem_set, List.getElem_map, List.getElem_range, cS]
  by_cases e : j % 5 = i
  · subst e; simp
  · simp [e]
theorem sL_zero (f : Nat → Nat) : #[Value.int .u64 0, .int .u64 0, .int .u64 0, .int .u64 0, .int .u64 0] = ((sL f 0).map (Value.int .u64)).toArray := rfl

/-! ### Columns that are replaced one after the other -/
def thR (f : Nat → Nat) (X Y k : Nat) : Nat := if k % 5 < X ∨ (k % 5 = X ∧ k / 5 < Y) then thL f k else f k
theorem thR_zero (f : Nat → Nat) : stL f = stL (thR f 0 0) := stL_congr fun i hi => by simp [thR]
theorem thR_next (f : Nat → Nat) (X : Nat) : stL (thR f X 5) = stL (thR f (X + 1) 0) := stL_congr fun i hi => by
  unfold thR
  have h1 : (i % 5 < X ∨ i % 5 = X ∧ i / 5 < 5) ↔ (i % 5 < X + 1 ∨ i % 5 = X + 1 ∧ i / 5 < 0) := by omega
  simp only [h1]
theorem thR_done (f : Nat → Nat) : stL (thR f 5 0) = stL (thL f) := stL_congr fun i hi => by
  unfold thR
  rw [if_pos (by omega)]
theorem thR_get (f : Nat → Nat) (X Y : Nat) (hX : X < 5) : thR f X Y (X + 5 * Y) = f (X + 5 * Y) := by
  unfold thR
  rw [if_neg (by omega)]
theorem thR_set (f : Nat → Nat) (X Y : Nat) (hX : X < 5) (hY : Y < 5) : (stL (thR f X Y)).set (X + 5 * Y) ((thL f (X + 5 * Y) : Nat) : Int) = stL (thR f X (Y + 1)) := by
  rw [stL_set]
  refine stL_congr fun i hi => ?_
  unfold thR
  by_cases e : i = X + 5 * Y
  · subst e
    rw [if_pos rfl, if_pos (by omega)]
  · rw [if_neg e]
    have h1 : (i % 5 < X ∨ i % 5 = X ∧ i / 5 < Y) ↔ (i % 5 < X ∨ i % 5 = X ∧ i / 5 < Y + 1) := by omega
    simp only [h1]
theorem th_add (f : Nat → Nat) (X Y : Nat) (hX : X < 5) : f (X + 5 * Y) ^^^ (colN f ((X + 4) % 5) ^^^ turnN (colN f ((X + 1) % 5)) 1) = thL f (X + 5 * Y) := by
  unfold thL
  rw [show (X + 5 * Y) % 5 = X by omega, Nat.xor_assoc]

theorem fiveInfo : (Tryd.prog.info? 62).map (·.size) = some 5 := by kernel_rfl

set_option maxRecDepth 100000 in
set_option maxHeartbeats 2000000 in
theorem kTheta_any (A : Array Value) (f : Nat → Nat) (hf : ∀ i, f i < 18446744073709551616) (hA : A = ((stL f).map (Value.int .u64)).toArray) (w : World) (ht : Tabs w) :
    Calls Tryd.prog 48 #[.agg A] w fun e w' => e = .returned (arrV (thL f)) ∧ Below w.heap.size w w' := by
  have HA : Hid _ := hA
  have HF : Hid (∀ i, f i < 18446744073709551616) := hf
  clear hA hf
  go_enter Tryd.func48, Tryd.ntmps48
  go_wp2
  rw [HA.out]
  obtain ⟨W, hW, hI, hs⟩ := two_rows f w _ zeros25 ht
  rw [hW]
  clear hW ht
  have rs : RowAt .u64 62 (w.heap.size + 2) 5 (sL f 0) (W.alloc (.cells #[Value.int .u64 0, .int .u64 0, .int .u64 0, .int .u64 0, .int .u64 0] 62)) :=
    RowAt.fresh (sL f 0) (sL_zero f) hs.symm (sL_length f 0).symm (sL_ne f 0) (by rw [sL_length]; simp [maxLen])
  have hI1 := hI.alloc (.cells #[Value.int .u64 0, .int .u64 0, .int .u64 0, .int .u64 0, .int .u64 0] 62)
  generalize W.alloc (.cells #[Value.int .u64 0, .int .u64 0, .int .u64 0, .int .u64 0, .int .u64 0] 62) = W1 at rs hI1
  clear hI hs
  go_loopw [8] (fun i wr => ∃ j : Nat, j ≤ 25 ∧ i = .int .i64 j ∧ KI w f wr ∧ RowAt .u64 62 (w.heap.size + 2) 5 (sL f j) wr) (fun i _ => 25 - (intOf i).toNat)
  case atStart => exact ⟨0, by omega, rfl, hI1, rs⟩
  case round =>
    obtain ⟨j, hj, rfl, hI2, rs2⟩ := hrel
    clear hI1 rs
    by_cases hlt : j < 25
    · have hd : decide ((j : Int) < 25) = true := decide_eq_true (by omega)
      have hjI : (j : Int) < 25 := by omega
      obtain ⟨m, hm⟩ : ∃ m : Nat, m = j % 5 := ⟨_, rfl⟩
      have bm : (m : Int) < 5 := by omega
      have t0 : (j : Int).tmod 5 = (m : Int) := by rw [hm]; exact Int.tmod_eq_emod_of_nonneg (by omega)
      have u0 : (j : Int) % 5 = (m : Int) := by omega
      have hc := hI2.a.cell (j := j) (by rw [stL_length]; exact hlt)
      rw [stL_get _ j hlt] at hc
      have cs := rs2.cell (j := m) (by rw [sL_length]; omega)
      rw [sL_get _ _ _ (by omega)] at cs
      have fs := rs2.free m
      have HX : Hid _ := xorI (cS f j m) (f j) (cS_lt f HF.out _ _) (HF.out j)
      have HS : Hid (∀ x : Int, x = ((cS f j m ^^^ f j : Nat) : Int) → RowAt .u64 62 (w.heap.size + 2) 5 (sL f (j + 1)) (wr.setCell ⟨w.heap.size + 2, m, none⟩ (.int .u64 x)) ∧ KI w f (wr.setCell ⟨w.heap.size + 2, m, none⟩ (.int .u64 x))) := by
        intro x hx
        refine ⟨?_, hI2.other (Wrote.set _ m wr _) (Nat.le_refl _)⟩
        rw [← sL_set, ← hm, ← hx]
        exact rs2.set m x
      generalize f j = q0 at hc HX HS
      generalize cS f j m = q1 at cs HX HS
      clear hI2 rs2 hm
      go_wp2_with fail
      refine wpE_begin 9 (by kernel_rfl) ?_
      refine eU_ 0 rfl ⟨_, by intro W hW; go_simp <;> with_reducible rfl, ?_⟩
      try simp only [Act.put, pA_, pB_, pC_]
      refine eU_ 1 rfl ⟨_, by intro W hW; go_simp <;> with_reducible rfl, ?_⟩
      try simp only [Act.put, pA_, pB_, pC_]
      refine eU_ 2 rfl ⟨_, by intro W hW; go_simp <;> with_reducible rfl, ?_⟩
      try simp only [Act.put, pA_, pB_, pC_]
      refine eU_ 3 rfl ⟨_, by intro W hW; have hcW := cellU cs hW; go_simp <;> with_reducible rfl, ?_⟩
      try simp only [Act.put, pA_, pB_, pC_]
      refine eU_ 4 rfl ⟨_, by intro W hW; go_simp <;> with_reducible rfl, ?_⟩
      try simp only [Act.put, pA_, pB_, pC_]
      refine eU_ 5 rfl ⟨_, by intro W hW; go_simp <;> with_reducible rfl, ?_⟩
      try simp only [Act.put, pA_, pB_, pC_]
      refine eU_ 6 rfl ⟨_, by intro W hW; have hcW := cellU hc hW; go_simp <;> with_reducible rfl, ?_⟩
      try simp only [Act.put, pA_, pB_, pC_]
      refine eU_ 7 rfl ⟨_, by intro W hW; go_simp <;> with_reducible rfl, ?_⟩
      try simp only [Act.put, pA_, pB_, pC_]
      refine eU_ 8 rfl ⟨_, by intro W hW; go_simp <;> with_reducible rfl, ?_⟩
      try simp only [Act.put, pA_, pB_, pC_]
      refine eL_ fun K hK => ?_
      go_simp
      refine hK.out _ _ ?_
      clear hK K
      try simp only [Act.put, pA_, pB_, pC_]

      obtain ⟨rs3, hI3⟩ := HS.out _ HX.out
      have hI4 := hI3.drew
      have rs4 := rs3.drew
      go_wp2
      go_roundw
      case rel => exact ⟨j + 1, by omega, by go_num, hI4, rs4⟩
      case measure => simp [intOf]; omega
    · have hje : j = 25 := by omega
      rw [hje] at rs2
      have hd0 : decide ((j : Int) < 25) = false := decide_eq_false (by omega)
      have hj0 : (25 : Int) ≤ j := by omega
      have hI3 : KI w (thR f 0 0) wr := ⟨thR_zero f ▸ hI2.a, hI2.r, hI2.b, hI2.t, hI2.two⟩
      clear hI2 hlt hj hje
      go_wp2
      go_loopw [21] (fun i wr => ∃ X : Nat, X ≤ 5 ∧ i = .int .i64 X ∧ KI w (thR f X 0) wr ∧ RowAt .u64 62 (w.heap.size + 2) 5 (sL f 25) wr) (fun i _ => 5 - (intOf i).toNat)
      case atStart => exact ⟨0, by omega, rfl, hI3, rs2⟩
      case round =>
        obtain ⟨X, hX, rfl, hI4, rs4⟩ := hrel
        clear hI3 rs2
        by_cases hlt : X < 5
        · have hd : decide ((X : Int) < 5) = true := decide_eq_true (by omega)
          have hXI : (X : Int) < 5 := by omega
          obtain ⟨m4, hm4⟩ : ∃ m : Nat, m = (X + 4) % 5 := ⟨_, rfl⟩
          obtain ⟨m1, hm1⟩ : ∃ m : Nat, m = (X + 1) % 5 := ⟨_, rfl⟩
          have b4 : (m4 : Int) < 5 := by omega
          have b1 : (m1 : Int) < 5 := by omega
          have v4 : IntKind.i64.wrap ((X : Int) + 4) = (X : Int) + 4 := IntWalk.i64_in _ (by omega)
          have v1 : IntKind.i64.wrap ((X : Int) + 1) = (X : Int) + 1 := IntWalk.i64_in _ (by omega)
          have t4 : ((X : Int) + 4).tmod 5 = (m4 : Int) := by rw [Int.tmod_eq_emod_of_nonneg (by omega)]; omega
          have t1 : ((X : Int) + 1).tmod 5 = (m1 : Int) := by rw [Int.tmod_eq_emod_of_nonneg (by omega)]; omega
          have u4 : ((X : Int) + 4) % 5 = (m4 : Int) := by omega
          have u1 : ((X : Int) + 1) % 5 = (m1 : Int) := by omega
          have c4 := rs4.cell (j := m4) (by rw [sL_length]; omega)
          have c1 := rs4.cell (j := m1) (by rw [sL_length]; omega)
          rw [sL_get _ _ _ (by omega), cS_done _ _ (by omega)] at c4 c1
          have HTA : Hid (∀ Y, f (X + 5 * Y) ^^^ (colN f m4 ^^^ turnN (colN f m1) 1) = thL f (X + 5 * Y)) := by
            intro Y
            rw [hm4, hm1]
            exact th_add f X Y hlt
          have h4 := colN_lt f HF.out m4
          have h1 := colN_lt f HF.out m1
          have HX : Hid _ := xorI (colN f m4) (turnN (colN f m1) 1) h4 (turnN_lt _ _ h1 (by decide))
          have HL : Hid (colN f m4 ^^^ turnN (colN f m1) 1 < 18446744073709551616) := xor_lt64 h4 (turnN_lt _ _ h1 (by decide))
          generalize colN f m4 = q4 at c4 HX HTA HL h4
          generalize colN f m1 = q1 at c1 HX HTA HL h1
          have HI : Hid _ := hI4
          have HR : Hid _ := rs4
          clear hI4 rs4 hm4 hm1
          go_wp2_with fail
          refine wpG_begin (by kernel_rfl) ?_
          refine gU_ 0 rfl ⟨_, by intro W hW; go_simp <;> with_reducible rfl, ?_⟩
          try simp only [Act.put, pA_, pB_, pC_]
          refine gU_ 1 rfl ⟨_, by intro W hW; go_simp <;> with_reducible rfl, ?_⟩
          try simp only [Act.put, pA_, pB_, pC_]
          refine gU_ 2 rfl ⟨_, by intro W hW; go_simp <;> with_reducible rfl, ?_⟩
          try simp only [Act.put, pA_, pB_, pC_]
          refine gU_ 3 rfl ⟨_, by intro W hW; go_simp <;> with_reducible rfl, ?_⟩
          try simp only [Act.put, pA_, pB_, pC_]
          refine gU_ 4 rfl ⟨_, by intro W hW; have hcW := cellU c4 hW; go_simp <;> with_reducible rfl, ?_⟩
          try simp only [Act.put, pA_, pB_, pC_]
          refine gU_ 5 rfl ⟨_, by intro W hW; go_simp <;> with_reducible rfl, ?_⟩
          try simp only [Act.put, pA_, pB_, pC_]
          refine gU_ 6 rfl ⟨_, by intro W hW; go_simp <;> with_reducible rfl, ?_⟩
          try simp only [Act.put, pA_, pB_, pC_]
          refine gU_ 7 rfl ⟨_, by intro W hW; go_simp <;> with_reducible rfl, ?_⟩
          try simp only [Act.put, pA_, pB_, pC_]
          refine gU_ 8 rfl ⟨_, by intro W hW; go_simp <;> with_reducible rfl, ?_⟩
          try simp only [Act.put, pA_, pB_, pC_]
          refine gU_ 9 rfl ⟨_, by intro W hW; have hcW := cellU c1 hW; go_simp <;> with_reducible rfl, ?_⟩
          try simp only [Act.put, pA_, pB_, pC_]
          refine gD_ 10 fun K hK => ?_
          go_simp
          refine (rot_any q1 1 _ _ rfl rfl h1 (by decide) _).mono ?_
          rintro e w' ⟨rfl, rfl⟩
          refine hK.out _ _ (Below.refl _ _) ?_
          clear hK K
          try simp only [Act.put, pA_, pB_, pC_]
          refine gU_ 11 rfl ⟨_, by intro W hW; go_simp <;> with_reducible rfl, ?_⟩
          try simp only [Act.put, pA_, pB_, pC_]
          refine gU_ 12 rfl ⟨_, by intro W hW; go_simp <;> with_reducible rfl, ?_⟩
          try simp only [Act.put, pA_, pB_, pC_]
          refine wpG_done (by kernel_rfl) ?_

          rw [HX.out]
          have hI5 := HI.out.drew
          have rs5 := HR.out.drew
          generalize q4 ^^^ turnN q1 1 = q at HTA HL
          clear HX h4 h1 c4 c1 HI HR v4 v1 t4 t1 u4 u1 b4 b1
          generalize wr.drew = wr1 at hI5 rs5
          clear wr
          go_wp2
          go_loopw [36] (fun i wr => ∃ Y : Nat, Y ≤ 5 ∧ i = .int .i64 Y ∧ KI w (thR f X Y) wr ∧ RowAt .u64 62 (w.heap.size + 2) 5 (sL f 25) wr) (fun i _ => 5 - (intOf i).toNat)
          case atStart => exact ⟨0, by omega, rfl, hI5, rs5⟩
          case round =>
            obtain ⟨Y, hY, rfl, hI6, rs6⟩ := hrel
            clear hI5 rs5
            by_cases hYlt : Y < 5
            · have hd2 : decide ((Y : Int) < 5) = true := decide_eq_true (by omega)
              have hYI : (Y : Int) < 5 := by omega
              have hc := hI6.a.cell (j := X + 5 * Y) (by rw [stL_length]; omega)
              have hcf := hI6.a.free (X + 5 * Y)
              rw [stL_get _ _ (by omega), thR_get f X Y hlt] at hc
              have HT := HTA.out Y
              have HX : Hid _ := xorI (f (X + 5 * Y)) q (HF.out _) HL.out
              rw [HT] at HX
              have HS : Hid (∀ x : Int, x = ((thL f (X + 5 * Y) : Nat) : Int) → KI w (thR f X (Y + 1)) (wr.setCell ⟨w.heap.size, X + 5 * Y, none⟩ (.int .u64 x)) ∧ RowAt .u64 62 (w.heap.size + 2) 5 (sL f 25) (wr.setCell ⟨w.heap.size, X + 5 * Y, none⟩ (.int .u64 x))) := by
                intro x hx
                refine ⟨hI6.set _ x (by rw [hx]; exact thR_set f X Y hlt hYlt), rs6.wrote (Wrote.set _ _ wr _) (by omega)⟩
              generalize f (X + 5 * Y) = q0 at hc HX
              have w5 : IntKind.i64.wrap (5 * (Y : Int)) = 5 * (Y : Int) := IntWalk.i64_in _ (by omega)
              have wX : IntKind.i64.wrap ((X : Int) + 5 * (Y : Int)) = (X : Int) + 5 * (Y : Int) := IntWalk.i64_in _ (by omega)
              have nX : ((X : Int) + 5 * (Y : Int)).toNat = X + 5 * Y := by omega
              have pX : 0 ≤ (X : Int) + 5 * (Y : Int) := by omega
              have lX : (X : Int) + 5 * (Y : Int) < 25 := by omega
              clear hI6 rs6 HT
              go_wp2
              obtain ⟨hI7, rs7⟩ := HS.out _ HX.out
              go_roundw
              case rel => exact ⟨Y + 1, by omega, by go_num, hI7, rs7⟩
              case measure => simp [intOf]; omega
            · have hYe : Y = 5 := by omega
              subst hYe
              have hI7 : KI w (thR f (X + 1) 0) wr := ⟨thR_next f X ▸ hI6.a, hI6.r, hI6.b, hI6.t, hI6.two⟩
              clear hI6
              go_wp2
              go_roundw
              case rel => exact ⟨X + 1, by omega, by go_num, hI7, rs6⟩
              case measure => simp [intOf]; omega
        · have hXe : X = 5 := by omega
          subst hXe
          have r1 := hI4.a
          rw [thR_done] at r1
          have r2 := hI4.r
          go_wp2_with (first | refine wpList_load_row rfl 41 _ rfl rfl r1 _ Tryd.underlying41 rfl (arrInfo _) ?_ | (refine wpList_store_row rfl 41 _ _ rfl (stL (thL f)) rfl rfl r2 (by simp [stL_length]) (arrInfo _) ?_; intro w2 r3 hw))
          refine bodyPost_row (p := 2) (ty := 41) rfl rfl rfl r3 Tryd.underlying41 rfl (arrInfo _) ?_
          exact ⟨rfl, hw.below _ _ (by omega) hI4.b⟩
end Go.Proofs.YtfiefohdceokdaaDoor

/- What Pi and Chi answer: contracts of package keccak, fourth part. -/
namespace Go.Proofs.YtfiefohdceokdaaDoor
open Go.ChangeShapes Go.WideShapes Go.ChangeAt Go.RowKit
set_option linter.unusedSimpArgs false
set_option linter.unusedVariables false

set_option maxRecDepth 100000 in
set_option maxHeartbeats 2000000 in
theorem kPi_any (A : Array Value) (f : Nat → Nat) (hf : ∀ i, f i < 18446744073709551616) (hA : A = ((stL f).map (Value.int .u64)).toArray) (w : World) (ht : Tabs w) :
    Calls Tryd.prog 46 #[.agg A] w fun e w' => e = .returned (arrV (piF f)) ∧ Below w.heap.size w w' := by
  have HA : Hid _ := hA
  have HF : Hid (∀ i, f i < 18446744073709551616) := hf
  clear hA hf
  go_enter Tryd.func46, Tryd.ntmps46
  go_wp2
  rw [HA.out]
  obtain ⟨W, hW, hI, hs⟩ := two_rows f w _ zeros25 ht
  rw [hW]
  clear hW ht
  have ro : RowAt .u64 41 (w.heap.size + 2) 25 (stL fun _ => 0) (W.alloc (.cells #[Value.int .u64 0, .int .u64 0, .int .u64 0, .int .u64 0, .int .u64 0, .int .u64 0, .int .u64 0, .int .u64 0, .int .u64 0, .int .u64 0, .int .u64 0, .int .u64 0, .int .u64 0, .int .u64 0, .int .u64 0, .int .u64 0, .int .u64 0, .int .u64 0, .int .u64 0, .int .u64 0, .int .u64 0, .int .u64 0, .int .u64 0, .int .u64 0, .int .u64 0] 41)) :=
    RowAt.fresh _ zeros25 hs.symm (stL_length _).symm (stL_ne _) (by rw [stL_length]; simp [maxLen])
  have hI1 := hI.alloc (.cells #[Value.int .u64 0, .int .u64 0, .int .u64 0, .int .u64 0, .int .u64 0, .int .u64 0, .int .u64 0, .int .u64 0, .int .u64 0, .int .u64 0, .int .u64 0, .int .u64 0, .int .u64 0, .int .u64 0, .int .u64 0, .int .u64 0, .int .u64 0, .int .u64 0, .int .u64 0, .int .u64 0, .int .u64 0, .int .u64 0, .int .u64 0, .int .u64 0, .int .u64 0] 41)
  generalize W.alloc (.cells #[Value.int .u64 0, .int .u64 0, .int .u64 0, .int .u64 0, .int .u64 0, .int .u64 0, .int .u64 0, .int .u64 0, .int .u64 0, .int .u64 0, .int .u64 0, .int .u64 0, .int .u64 0, .int .u64 0, .int .u64 0, .int .u64 0, .int .u64 0, .int .u64 0, .int .u64 0, .int .u64 0, .int .u64 0, .int .u64 0, .int .u64 0, .int .u64 0, .int .u64 0] 41) = W1 at ro hI1
  rw [upQ_zero (fun _ => 0) (piF f)] at ro
  clear hI hs
  go_loopw [6] (fun i wr => ∃ Y : Nat, Y ≤ 5 ∧ i = .int .i64 Y ∧ KI w f wr ∧ RowAt .u64 41 (w.heap.size + 2) 25 (stL (upQ (fun _ => 0) (piF f) (5 * Y))) wr) (fun i _ => 5 - (intOf i).toNat)
  case atStart => exact ⟨0, by omega, rfl, hI1, ro⟩
  case round =>
    obtain ⟨Y, hY, rfl, hI2, ro2⟩ := hrel
    clear hI1 ro
    by_cases hlt : Y < 5
    · have hd : decide ((Y : Int) < 5) = true := decide_eq_true (by omega)
      have hYI : (Y : Int) < 5 := by omega
      go_wp2
      go_loopw [9] (fun i wr => ∃ X : Nat, X ≤ 5 ∧ i = .int .i64 X ∧ KI w f wr ∧ RowAt .u64 41 (w.heap.size + 2) 25 (stL (upQ (fun _ => 0) (piF f) (X + 5 * Y))) wr) (fun i _ => 5 - (intOf i).toNat)
      case atStart => exact ⟨0, by omega, rfl, hI2, by rw [Nat.zero_add]; exact ro2⟩
      case round =>
        obtain ⟨X, hX, rfl, hI3, ro3⟩ := hrel
        clear hI2 ro2
        by_cases hXlt : X < 5
        · have hd2 : decide ((X : Int) < 5) = true := decide_eq_true (by omega)
          have hXI : (X : Int) < 5 := by omega
          obtain ⟨m, hm⟩ : ∃ m : Nat, m = (X + 3 * Y) % 5 := ⟨_, rfl⟩
          have bm : (m : Int) < 5 := by omega
          have hc := hI3.a.cell (j := m + 5 * X) (by rw [stL_length]; omega)
          rw [stL_get _ _ (by omega)] at hc
          have ho := ro3.cell (j := X + 5 * Y) (by rw [stL_length]; omega)
          have hof := ro3.free (X + 5 * Y)
          have HS : Hid (∀ x : Int, x = ((f (m + 5 * X) : Nat) : Int) → RowAt .u64 41 (w.heap.size + 2) 25 (stL (upQ (fun _ => 0) (piF f) (X + 1 + 5 * Y))) (wr.setCell ⟨w.heap.size + 2, X + 5 * Y, none⟩ (.int .u64 x)) ∧ KI w f (wr.setCell ⟨w.heap.size + 2, X + 5 * Y, none⟩ (.int .u64 x))) := by
            intro x hx
            refine ⟨?_, hI3.other (Wrote.set _ _ wr _) (Nat.le_refl _)⟩
            have e : f (m + 5 * X) = piF f (X + 5 * Y) := by
              unfold piF
              rw [show (X + 5 * Y) % 5 = X by omega, show (X + 5 * Y) / 5 = Y by omega, hm]
            rw [show X + 1 + 5 * Y = (X + 5 * Y) + 1 by omega, ← upQ_set, ← e, ← hx]
            exact ro3.set _ x
          generalize f (m + 5 * X) = q0 at hc HS
          generalize (stL (upQ (fun _ => 0) (piF f) (X + 5 * Y))).getD (X + 5 * Y) 0 = q1 at ho
          have w5 : IntKind.i64.wrap (5 * (Y : Int)) = 5 * (Y : Int) := IntWalk.i64_in _ (by omega)
          have wX : IntKind.i64.wrap ((X : Int) + 5 * (Y : Int)) = (X : Int) + 5 * (Y : Int) := IntWalk.i64_in _ (by omega)
          have nX : ((X : Int) + 5 * (Y : Int)).toNat = X + 5 * Y := by omega
          have pX : 0 ≤ (X : Int) + 5 * (Y : Int) := by omega
          have lX : (X : Int) + 5 * (Y : Int) < 25 := by omega
          have w3 : IntKind.i64.wrap (3 * (Y : Int)) = 3 * (Y : Int) := IntWalk.i64_in _ (by omega)
          have wS : IntKind.i64.wrap ((X : Int) + 3 * (Y : Int)) = (X : Int) + 3 * (Y : Int) := IntWalk.i64_in _ (by omega)
          have tS : ((X : Int) + 3 * (Y : Int)).tmod 5 = (m : Int) := by rw [Int.tmod_eq_emod_of_nonneg (by omega)]; omega
          have uS : ((X : Int) + 3 * (Y : Int)) % 5 = (m : Int) := by omega
          have w5X : IntKind.i64.wrap (5 * (X : Int)) = 5 * (X : Int) := IntWalk.i64_in _ (by omega)
          have wM : IntKind.i64.wrap ((m : Int) + 5 * (X : Int)) = (m : Int) + 5 * (X : Int) := IntWalk.i64_in _ (by omega)
          have nM : ((m : Int) + 5 * (X : Int)).toNat = m + 5 * X := by omega
          have pM : 0 ≤ (m : Int) + 5 * (X : Int) := by omega
          have lM : (m : Int) + 5 * (X : Int) < 25 := by omega
          clear hI3 ro3 hm
          go_wp2
          obtain ⟨ro4, hI4⟩ := HS.out _ rfl
          go_roundw
          case rel => exact ⟨X + 1, by omega, by go_num, hI4, ro4⟩
          case measure => simp [intOf]; omega
        · have hXe : X = 5 := by omega
          subst hXe
          rw [show 5 + 5 * Y = 5 * (Y + 1) by omega] at ro3
          go_wp2
          go_roundw
          case rel => exact ⟨Y + 1, by omega, by go_num, hI3, ro3⟩
          case measure => simp [intOf]; omega
    · have hYe : Y = 5 := by omega
      subst hYe
      have r1 := ro2
      rw [upQ_done] at r1
      have r2 := hI2.r
      go_wp2_with (first | refine wpList_load_row rfl 41 _ rfl rfl r1 _ Tryd.underlying41 rfl (arrInfo _) ?_ | (refine wpList_store_row rfl 41 _ _ rfl (stL (piF f)) rfl rfl r2 (by simp [stL_length]) (arrInfo _) ?_; intro w2 r3 hw))
      refine bodyPost_row (p := 2) (ty := 41) rfl rfl rfl r3 Tryd.underlying41 rfl (arrInfo _) ?_
      exact ⟨rfl, hw.below _ _ (by omega) hI2.b⟩

theorem chi_val (f : Nat → Nat) (hf : ∀ i, f i < 18446744073709551616) (X Y : Nat) (hX : X < 5) (m1 m2 : Nat) (h1 : m1 = (X + 1) % 5) (h2 : m2 = (X + 2) % 5) :
    bits .xor .u64 ((f (5 * Y + X) : Nat) : Int) (bits .and .u64 (bits .xor .u64 (if IntKind.u64.signed = true then -1 else IntKind.u64.max) ((f (5 * Y + m1) : Nat) : Int)) ((f (5 * Y + m2) : Nat) : Int)) = ((chL f (5 * Y + X) : Nat) : Int) := by
  have e1 : 5 * Y + X - (5 * Y + X) % 5 + ((5 * Y + X) % 5 + 1) % 5 = 5 * Y + m1 := by omega
  have e2 : 5 * Y + X - (5 * Y + X) % 5 + ((5 * Y + X) % 5 + 2) % 5 = 5 * Y + m2 := by omega
  unfold chL
  rw [e1, e2, sub_and]
  have b1 := hf (5 * Y + m1)
  have b2 := hf (5 * Y + m2)
  have b0 := hf (5 * Y + X)
  generalize f (5 * Y + m1) = p at b1
  generalize f (5 * Y + m2) = q at b2
  generalize f (5 * Y + X) = r at b0
  have en : bits .xor .u64 (if IntKind.u64.signed = true then -1 else IntKind.u64.max) (p : Int) = ((18446744073709551615 ^^^ p : Nat) : Int) := xorI 18446744073709551615 p (by decide) b1
  rw [en, andI _ _ (xor_lt64 (by decide) b1) b2]
  have ea : (18446744073709551615 ^^^ p) &&& q = q ^^^ (q &&& p) := by
    apply Nat.eq_of_testBit_eq
    intro i
    rw [Nat.testBit_and, Nat.testBit_xor, Nat.testBit_xor, Nat.testBit_and, show (18446744073709551615 : Nat) = 2 ^ 64 - 1 from rfl, Nat.testBit_two_pow_sub_one]
    by_cases hi : i < 64
    · simp only [hi, decide_true]
      cases p.testBit i <;> cases q.testBit i <;> rfl
    · have hq : q.testBit i = false := Nat.testBit_lt_two_pow (Nat.lt_of_lt_of_le b2 (Nat.pow_le_pow_right (show 0 < 2 by decide) (by omega : 64 ≤ i)))
      rw [hq]
      simp
  rw [ea, xorI _ _ b0 (by
    have h : q &&& p ≤ q := Nat.and_le_left
    exact xor_lt64 b2 (by omega))]

set_option maxRecDepth 100000 in
set_option maxHeartbeats 2000000 in
theorem kChi_any (A : Array Value) (f : Nat → Nat) (hf : ∀ i, f i < 18446744073709551616) (hA : A = ((stL f).map (Value.int .u64)).toArray) (w : World) (ht : Tabs w) :
    Calls Tryd.prog 45 #[.agg A] w fun e w' => e = .returned (arrV (chL f)) ∧ Below w.heap.size w w' := by
  have HA : Hid _ := hA
  have HF : Hid (∀ i, f i < 18446744073709551616) := hf
  clear hA hf
  go_enter Tryd.func45, Tryd.ntmps45
  go_wp2
  rw [HA.out]
  obtain ⟨W, hW, hI, hs⟩ := two_rows f w _ zeros25 ht
  rw [hW]
  clear hW ht
  have ro : RowAt .u64 41 (w.heap.size + 2) 25 (stL fun _ => 0) (W.alloc (.cells #[Value.int .u64 0, .int .u64 0, .int .u64 0, .int .u64 0, .int .u64 0, .int .u64 0, .int .u64 0, .int .u64 0, .int .u64 0, .int .u64 0, .int .u64 0, .int .u64 0, .int .u64 0, .int .u64 0, .int .u64 0, .int .u64 0, .int .u64 0, .int .u64 0, .int .u64 0, .int .u64 0, .int .u64 0, .int .u64 0, .int .u64 0, .int .u64 0, .int .u64 0] 41)) :=
    RowAt.fresh _ zeros25 hs.symm (stL_length _).symm (stL_ne _) (by rw [stL_length]; simp [maxLen])
  have hI1 := hI.alloc (.cells #[Value.int .u64 0, .int .u64 0, .int .u64 0, .int .u64 0, .int .u64 0, .int .u64 0, .int .u64 0, .int .u64 0, .int .u64 0, .int .u64 0, .int .u64 0, .int .u64 0, .int .u64 0, .int .u64 0, .int .u64 0, .int .u64 0, .int .u64 0, .int .u64 0, .int .u64 0, .int .u64 0, .int .u64 0, .int .u64 0, .int .u64 0, .int .u64 0, .int .u64 0] 41)
  generalize W.alloc (.cells #[Value.int .u64 0, .int .u64 0, .int .u64 0, .int .u64 0, .int .u64 0, .int .u64 0, .int .u64 0, .int .u64 0, .int .u64 0, .int .u64 0, .int .u64 0, .int .u64 0, .int .u64 0, .int .u64 0, .int .u64 0, .int .u64 0, .int .u64 0, .int .u64 0, .int .u64 0, .int .u64 0, .int .u64 0, .int .u64 0, .int .u64 0, .int .u64 0, .int .u64 0] 41) = W1 at ro hI1
  rw [upQ_zero (fun _ => 0) (chL f)] at ro
  clear hI hs
  go_loopw [7] (fun i wr => ∃ Y : Nat, Y ≤ 5 ∧ i = .int .i64 Y ∧ KI w f wr ∧ RowAt .u64 41 (w.heap.size + 2) 25 (stL (upQ (fun _ => 0) (chL f) (5 * Y))) wr) (fun i _ => 5 - (intOf i).toNat)
  case atStart => exact ⟨0, by omega, rfl, hI1, ro⟩
  case round =>
    obtain ⟨Y, hY, rfl, hI2, ro2⟩ := hrel
    clear hI1 ro
    by_cases hlt : Y < 5
    · have hd : decide ((Y : Int) < 5) = true := decide_eq_true (by omega)
      have hYI : (Y : Int) < 5 := by omega
      have w5 : IntKind.i64.wrap (5 * (Y : Int)) = 5 * (Y : Int) := IntWalk.i64_in _ (by omega)
      go_wp2
      go_loopw [12] (fun i wr => ∃ X : Nat, X ≤ 5 ∧ i = .int .i64 X ∧ KI w f wr ∧ RowAt .u64 41 (w.heap.size + 2) 25 (stL (upQ (fun _ => 0) (chL f) (5 * Y + X))) wr) (fun i _ => 5 - (intOf i).toNat)
      case atStart => exact ⟨0, by omega, rfl, hI2, ro2⟩
      case round =>
        obtain ⟨X, hX, rfl, hI3, ro3⟩ := hrel
        clear hI2 ro2
        by_cases hXlt : X < 5
        · have hd2 : decide ((X : Int) < 5) = true := decide_eq_true (by omega)
          have hXI : (X : Int) < 5 := by omega
          obtain ⟨m1, hm1⟩ : ∃ m : Nat, m = (X + 1) % 5 := ⟨_, rfl⟩
          obtain ⟨m2, hm2⟩ : ∃ m : Nat, m = (X + 2) % 5 := ⟨_, rfl⟩
          have b1 : (m1 : Int) < 5 := by omega
          have b2 : (m2 : Int) < 5 := by omega
          have hc := hI3.a.cell (j := 5 * Y + X) (by rw [stL_length]; omega)
          have hc1 := hI3.a.cell (j := 5 * Y + m1) (by rw [stL_length]; omega)
          have hc2 := hI3.a.cell (j := 5 * Y + m2) (by rw [stL_length]; omega)
          rw [stL_get _ _ (by omega)] at hc hc1 hc2
          have ho := ro3.cell (j := 5 * Y + X) (by rw [stL_length]; omega)
          have hof := ro3.free (5 * Y + X)
          have HX : Hid _ := chi_val f HF.out X Y hXlt m1 m2 hm1 hm2
          have HS : Hid (∀ x : Int, x = ((chL f (5 * Y + X) : Nat) : Int) → RowAt .u64 41 (w.heap.size + 2) 25 (stL (upQ (fun _ => 0) (chL f) (5 * Y + (X + 1)))) (wr.setCell ⟨w.heap.size + 2, 5 * Y + X, none⟩ (.int .u64 x)) ∧ KI w f (wr.setCell ⟨w.heap.size + 2, 5 * Y + X, none⟩ (.int .u64 x))) := by
            intro x hx
            refine ⟨?_, hI3.other (Wrote.set _ _ wr _) (Nat.le_refl _)⟩
            rw [show 5 * Y + (X + 1) = (5 * Y + X) + 1 by omega, ← upQ_set, ← hx]
            exact ro3.set _ x
          generalize f (5 * Y + X) = q0 at hc HX
          generalize f (5 * Y + m1) = q1 at hc1 HX
          generalize f (5 * Y + m2) = q2 at hc2 HX
          generalize (stL (upQ (fun _ => 0) (chL f) (5 * Y + X))).getD (5 * Y + X) 0 = q3 at ho
          have v1 : IntKind.i64.wrap ((X : Int) + 1) = (X : Int) + 1 := IntWalk.i64_in _ (by omega)
          have v2 : IntKind.i64.wrap ((X : Int) + 2) = (X : Int) + 2 := IntWalk.i64_in _ (by omega)
          have t1 : ((X : Int) + 1).tmod 5 = (m1 : Int) := by rw [Int.tmod_eq_emod_of_nonneg (by omega)]; omega
          have t2 : ((X : Int) + 2).tmod 5 = (m2 : Int) := by rw [Int.tmod_eq_emod_of_nonneg (by omega)]; omega
          have u1 : ((X : Int) + 1) % 5 = (m1 : Int) := by omega
          have u2 : ((X : Int) + 2) % 5 = (m2 : Int) := by omega
          have wX : IntKind.i64.wrap (5 * (Y : Int) + (X : Int)) = 5 * (Y : Int) + (X : Int) := IntWalk.i64_in _ (by omega)
          have w1 : IntKind.i64.wrap (5 * (Y : Int) + (m1 : Int)) = 5 * (Y : Int) + (m1 : Int) := IntWalk.i64_in _ (by omega)
          have w2 : IntKind.i64.wrap (5 * (Y : Int) + (m2 : Int)) = 5 * (Y : Int) + (m2 : Int) := IntWalk.i64_in _ (by omega)
          have nX : (5 * (Y : Int) + (X : Int)).toNat = 5 * Y + X := by omega
          have n1 : (5 * (Y : Int) + (m1 : Int)).toNat = 5 * Y + m1 := by omega
          have n2 : (5 * (Y : Int) + (m2 : Int)).toNat = 5 * Y + m2 := by omega
          have pX : 0 ≤ 5 * (Y : Int) + (X : Int) := by omega
          have p1 : 0 ≤ 5 * (Y : Int) + (m1 : Int) := by omega
          have p2 : 0 ≤ 5 * (Y : Int) + (m2 : Int) := by omega
          have lX : 5 * (Y : Int) + (X : Int) < 25 := by omega
          have l1 : 5 * (Y : Int) + (m1 : Int) < 25 := by omega
          have l2 : 5 * (Y : Int) + (m2 : Int) < 25 := by omega
          clear hI3 ro3 hm1 hm2
          go_wp2_with fail
          refine wpE_begin 26 (by kernel_rfl) ?_
          refine eU_ 0 rfl ⟨_, by intro W hW; go_simp <;> with_reducible rfl, ?_⟩
          try simp only [Act.put, pA_, pB_, pC_]
          refine eU_ 1 rfl ⟨_, by intro W hW; go_simp <;> with_reducible rfl, ?_⟩
          try simp only [Act.put, pA_, pB_, pC_]
          refine eU_ 2 rfl ⟨_, by intro W hW; go_simp <;> with_reducible rfl, ?_⟩
          try simp only [Act.put, pA_, pB_, pC_]
          refine eU_ 3 rfl ⟨_, by intro W hW; go_simp <;> with_reducible rfl, ?_⟩
          try simp only [Act.put, pA_, pB_, pC_]
          refine eU_ 4 rfl ⟨_, by intro W hW; go_simp <;> with_reducible rfl, ?_⟩
          try simp only [Act.put, pA_, pB_, pC_]
          refine eU_ 5 rfl ⟨_, by intro W hW; go_simp <;> with_reducible rfl, ?_⟩
          try simp only [Act.put, pA_, pB_, pC_]
          refine eU_ 6 rfl ⟨_, by intro W hW; go_simp <;> with_reducible rfl, ?_⟩
          try simp only [Act.put, pA_, pB_, pC_]
          refine eU_ 7 rfl ⟨_, by intro W hW; have hcW := cellU hc hW; go_simp <;> with_reducible rfl, ?_⟩
          try simp only [Act.put, pA_, pB_, pC_]
          refine eU_ 8 rfl ⟨_, by intro W hW; go_simp <;> with_reducible rfl, ?_⟩
          try simp only [Act.put, pA_, pB_, pC_]
          refine eU_ 9 rfl ⟨_, by intro W hW; go_simp <;> with_reducible rfl, ?_⟩
          try simp only [Act.put, pA_, pB_, pC_]
          refine eU_ 10 rfl ⟨_, by intro W hW; go_simp <;> with_reducible rfl, ?_⟩
          try simp only [Act.put, pA_, pB_, pC_]
          refine eU_ 11 rfl ⟨_, by intro W hW; go_simp <;> with_reducible rfl, ?_⟩
          try simp only [Act.put, pA_, pB_, pC_]
          refine eU_ 12 rfl ⟨_, by intro W hW; go_simp <;> with_reducible rfl, ?_⟩
          try simp only [Act.put, pA_, pB_, pC_]
          refine eU_ 13 rfl ⟨_, by intro W hW; go_simp <;> with_reducible rfl, ?_⟩
          try simp only [Act.put, pA_, pB_, pC_]
          refine eU_ 14 rfl ⟨_, by intro W hW; have hcW := cellU hc1 hW; go_simp <;> with_reducible rfl, ?_⟩
          try simp only [Act.put, pA_, pB_, pC_]
          refine eU_ 15 rfl ⟨_, by intro W hW; go_simp <;> with_reducible rfl, ?_⟩
          try simp only [Act.put, pA_, pB_, pC_]
          refine eU_ 16 rfl ⟨_, by intro W hW; go_simp <;> with_reducible rfl, ?_⟩
          try simp only [Act.put, pA_, pB_, pC_]
          refine eU_ 17 rfl ⟨_, by intro W hW; go_simp <;> with_reducible rfl, ?_⟩
          try simp only [Act.put, pA_, pB_, pC_]
          refine eU_ 18 rfl ⟨_, by intro W hW; go_simp <;> with_reducible rfl, ?_⟩
          try simp only [Act.put, pA_, pB_, pC_]
          refine eU_ 19 rfl ⟨_, by intro W hW; go_simp <;> with_reducible rfl, ?_⟩
          try simp only [Act.put, pA_, pB_, pC_]
          refine eU_ 20 rfl ⟨_, by intro W hW; go_simp <;> with_reducible rfl, ?_⟩
          try simp only [Act.put, pA_, pB_, pC_]
          refine eU_ 21 rfl ⟨_, by intro W hW; go_simp <;> with_reducible rfl, ?_⟩
          try simp only [Act.put, pA_, pB_, pC_]
          refine eU_ 22 rfl ⟨_, by intro W hW; have hcW := cellU hc2 hW; go_simp <;> with_reducible rfl, ?_⟩
          try simp only [Act.put, pA_, pB_, pC_]
          refine eU_ 23 rfl ⟨_, by intro W hW; go_simp <;> with_reducible rfl, ?_⟩
          try simp only [Act.put, pA_, pB_, pC_]
          refine eU_ 24 rfl ⟨_, by intro W hW; go_simp <;> with_reducible rfl, ?_⟩
          try simp only [Act.put, pA_, pB_, pC_]
          refine eU_ 25 rfl ⟨_, by intro W hW; go_simp <;> with_reducible rfl, ?_⟩
          try simp only [Act.put, pA_, pB_, pC_]
          refine eL_ fun K hK => ?_
          go_simp
          refine hK.out _ _ ?_
          clear hK K
          try simp only [Act.put, pA_, pB_, pC_]

          obtain ⟨ro4, hI4⟩ := HS.out _ HX.out
          have hI5 := hI4.drew
          have ro5 := ro4.drew
          go_wp2
          go_roundw
          case rel => exact ⟨X + 1, by omega, by go_num, hI5, ro5⟩
          case measure => simp [intOf]; omega
        · have hXe : X = 5 := by omega
          subst hXe
          rw [show 5 * Y + 5 = 5 * (Y + 1) by omega] at ro3
          go_wp2
          go_roundw
          case rel => exact ⟨Y + 1, by omega, by go_num, hI3, ro3⟩
          case measure => simp [intOf]; omega
    · have hYe : Y = 5 := by omega
      subst hYe
      have r1 := ro2
      rw [upQ_done] at r1
      have r2 := hI2.r
      go_wp2_with (first | refine wpList_load_row rfl 41 _ rfl rfl r1 _ Tryd.underlying41 rfl (arrInfo _) ?_ | (refine wpList_store_row rfl 41 _ _ rfl (stL (chL f)) rfl rfl r2 (by simp [stL_length]) (arrInfo _) ?_; intro w2 r3 hw))
      refine bodyPost_row (p := 2) (ty := 41) rfl rfl rfl r3 Tryd.underlying41 rfl (arrInfo _) ?_
      exact ⟨rfl, hw.below _ _ (by omega) hI2.b⟩
end Go.Proofs.YtfiefohdceokdaaDoor

/- What a round and all rounds answer: contracts of package keccak, fifth part. -/
namespace Go.Proofs.YtfiefohdceokdaaDoor
open Go.ChangeShapes Go.WideShapes Go.ChangeAt Go.RowKit
set_option linter.unusedSimpArgs false
set_option linter.unusedVariables false

/-- A round, of any number. -/
def rdLI (f : Nat → Nat) (r : Int) : Nat → Nat := if 0 ≤ r ∧ r ≤ 23 then rdL f r.toNat else f

set_option maxHeartbeats 1000000 in
theorem kRound_out (A : Array Value) (f : Nat → Nat) (hA : A = ((stL f).map (Value.int .u64)).toArray) (r : Int) (hr : decide (0 ≤ r ∧ r ≤ 23) = false) (w : World) (ht : Tabs w) :
    Calls Tryd.prog 42 #[.agg A, .int .i64 r] w fun e w' => e = .returned (arrV f) ∧ Below w.heap.size w w' := by
  have HA : Hid _ := hA
  clear hA
  go_enter Tryd.func42, Tryd.ntmps42
  go_wp2_with fail
  rw [HA.out]
  obtain ⟨W, hW, hI, hs⟩ := two_rows f w _ zeros25 ht
  rw [hW]
  clear hW ht
  refine (isRound_any _ _).mono ?_
  rintro e w1 ⟨rfl, rfl⟩
  rw [hr]
  have r1 := hI.a
  have r2 := hI.r
  go_wp2_with (first | refine wpList_load_row rfl 41 _ rfl rfl r1 _ Tryd.underlying41 rfl (arrInfo _) ?_ | (refine wpList_store_row rfl 41 _ _ rfl (stL f) rfl rfl r2 (by simp [stL_length]) (arrInfo _) ?_; intro w2 r3 hw))
  refine bodyPost_row (p := 4) (ty := 41) rfl rfl rfl r3 Tryd.underlying41 rfl (arrInfo _) ?_
  exact ⟨rfl, hw.below _ _ (by omega) hI.b⟩

theorem rdL_congr {f g : Nat → Nat} (hf : ∀ i, f i < 18446744073709551616) (hg : ∀ i, g i < 18446744073709551616) (h : ∀ i, i < 25 → f i = g i) (n : Nat) (hn : n < 24) (k : Nat) (hk : k < 25) : rdL f n k = rdL g n k := by
  rw [rdL_eq f hf n hn k hk, rdL_eq g hg n hn k hk]
  exact rdF_congr h n k hk
theorem cells64 : Tryd.prog.cellsOf 23 = 1 := by kernel_rfl
/-- Two states, compared by the program. -/
theorem eq_states (f g : Nat → Nat) (A B : Array Value) (hA : A = ((stL f).map (Value.int .u64)).toArray) (hB : B = ((stL g).map (Value.int .u64)).toArray) (w : World) :
    (Op.equalIn 10000 41 (.agg A) (.agg B)).run Tryd.prog w = .ok (decide (stL f = stL g)) w := by
  subst hA hB
  exact run_equal_row w 9998 Tryd.underlying41 Tryd.underlying23 cells64 _ _ (stL_length f) (stL_length g)

set_option maxHeartbeats 1000000 in
theorem kRound_in (A : Array Value) (f : Nat → Nat) (hf : ∀ i, f i < 18446744073709551616) (hA : A = ((stL f).map (Value.int .u64)).toArray) (n : Nat) (hlt : n < 24) (w : World) (ht : Tabs w) :
    Calls Tryd.prog 42 #[.agg A, .int .i64 (n : Int)] w fun e w' => e = .returned (arrV (rdL f n)) ∧ Below w.heap.size w w' := by
  have hr : decide (0 ≤ (n : Int) ∧ (n : Int) ≤ 23) = true := decide_eq_true (by omega)
  have HA : Hid _ := hA
  have HF : Hid (∀ i, f i < 18446744073709551616) := hf
  clear hA hf
  have hio : ∀ g : Nat → Nat, ioI g (n : Int) = ioK g n := fun g => by unfold ioI; rw [if_pos (by omega), Int.toNat_natCast]
  have HIO : Hid _ := hio
  clear hio
  go_enter Tryd.func42, Tryd.ntmps42
  go_wp2_with fail
  rw [HA.out]
  obtain ⟨W, hW, hI, hs⟩ := two_rows f w _ zeros25 ht
  rw [hW]
  clear hW ht
  refine (isRound_any _ _).mono ?_
  rintro e w1 ⟨rfl, rfl⟩
  rw [hr]
  clear hr
  have r1 := hI.a
  have hq := eq_states f (fun _ => 0) _ _ rfl zeros25 w1
  by_cases hz : stL f = stL (fun _ => 0)
  · rw [decide_eq_true hz] at hq
    have HZ : Hid _ := hz
    clear hz
    go_wp2_with (refine wpList_load_row rfl 41 _ rfl rfl r1 _ Tryd.underlying41 rfl (arrInfo _) ?_)
    refine (kIota_any _ (fun _ => 0) (fun _ => by decide) (by rw [HZ.out]) _ _ hI.t).mono ?_
    rintro e w2 ⟨rfl, hB⟩
    rw [HIO.out]
    have hI2 := hI.kept hB
    have r2 := hI2.r
    clear hq r1 hI hs hB
    go_wp2_with ((refine wpList_store_row rfl 41 _ _ rfl (stL (ioK (fun _ => 0) n)) rfl rfl r2 (by simp [stL_length]) (arrInfo _) ?_; intro w3 r3 hw))
    refine bodyPost_row (p := 4) (ty := 41) rfl rfl rfl r3 Tryd.underlying41 rfl (arrInfo _) ?_
    refine ⟨?_, hw.below _ _ (by omega) hI2.b⟩
    have e : stL (ioK (fun _ => 0) n) = stL (rdL f n) := by
      rw [← rdL_noughts]
      exact stL_congr fun k hk => rdL_congr (fun _ => by decide) HF.out (fun i hi => (stL_inj HZ.out i hi).symm) n hlt k hk
    show Ending.returned (.agg ((stL (ioK (fun _ => 0) n)).map (Value.int .u64)).toArray) = _
    rw [e]
  · rw [decide_eq_false hz] at hq
    clear hz
    go_wp2_with (refine wpList_load_row rfl 41 _ rfl rfl r1 _ Tryd.underlying41 rfl (arrInfo _) ?_)
    refine (kTheta_any _ f HF.out rfl _ hI.t).mono ?_
    rintro e w2 ⟨rfl, hB⟩
    have hI2 := hI.kept hB
    clear hq r1 hI hs hB
    go_wp2_with fail
    refine (kRho_any _ (thL f) (thL_lt f HF.out) rfl _ hI2.t).mono ?_
    rintro e w3 ⟨rfl, hB⟩
    have hI3 := hI2.kept hB
    clear hI2 hB
    go_wp2_with fail
    refine (kPi_any _ (rhL (thL f)) (rhL_lt _ (thL_lt f HF.out)) rfl _ hI3.t).mono ?_
    rintro e w4 ⟨rfl, hB⟩
    have hI4 := hI3.kept hB
    clear hI3 hB
    go_wp2_with fail
    refine (kChi_any _ (piF (rhL (thL f))) (piF_lt _ (rhL_lt _ (thL_lt f HF.out))) rfl _ hI4.t).mono ?_
    rintro e w5 ⟨rfl, hB⟩
    have hI5 := hI4.kept hB
    clear hI4 hB
    go_wp2_with fail
    refine (kIota_any _ (chL (piF (rhL (thL f)))) (chL_lt _ (piF_lt _ (rhL_lt _ (thL_lt f HF.out)))) rfl _ _ hI5.t).mono ?_
    rintro e w6 ⟨rfl, hB⟩
    rw [HIO.out]
    have hI6 := hI5.kept hB
    have r2 := hI6.r
    clear hI5 hB
    go_wp2_with ((refine wpList_store_row rfl 41 _ _ rfl (stL (rdL f n)) rfl rfl r2 (by simp [stL_length]) (arrInfo _) ?_; intro w7 r3 hw))
    refine bodyPost_row (p := 4) (ty := 41) rfl rfl rfl r3 Tryd.underlying41 rfl (arrInfo _) ?_
    exact ⟨rfl, hw.below _ _ (by omega) hI6.b⟩
theorem kRound_any (A : Array Value) (f : Nat → Nat) (hf : ∀ i, f i < 18446744073709551616) (hA : A = ((stL f).map (Value.int .u64)).toArray) (r : Int) (w : World) (ht : Tabs w) :
    Calls Tryd.prog 42 #[.agg A, .int .i64 r] w fun e w' => e = .returned (arrV (rdLI f r)) ∧ Below w.heap.size w w' := by
  by_cases h : 0 ≤ r ∧ r ≤ 23
  · obtain ⟨n, rfl⟩ : ∃ n : Nat, r = n := ⟨r.toNat, by omega⟩
    have e : rdLI f (n : Int) = rdL f n := by unfold rdLI; rw [if_pos h, Int.toNat_natCast]
    rw [e]
    exact kRound_in A f hf hA n (by omega) w ht
  · have e : rdLI f r = f := by unfold rdLI; rw [if_neg h]
    rw [e]
    exact kRound_out A f hA r (decide_eq_false h) w ht
theorem rdLI_lt (f : Nat → Nat) (hf : ∀ i, f i < 18446744073709551616) (r : Int) (k : Nat) : rdLI f r k < 18446744073709551616 := by
  unfold rdLI
  split
  · exact rdL_lt f hf _ (by omega) k
  · exact hf k
/-- The program's round is the document's. -/
theorem rdLI_eq (f : Nat → Nat) (hf : ∀ i, f i < 18446744073709551616) (r : Int) (k : Nat) (hk : k < 25) : rdLI f r k = (if 0 ≤ r ∧ r ≤ 23 then rdF f r.toNat else f) k := by
  unfold rdLI
  by_cases h : 0 ≤ r ∧ r ≤ 23
  · rw [if_pos h, if_pos h]
    exact rdL_eq f hf _ (by omega) k hk
  · rw [if_neg h, if_neg h]

set_option maxHeartbeats 1000000 in
theorem kF_any (A : Array Value) (f : Nat → Nat) (hf : ∀ i, f i < 18446744073709551616) (hA : A = ((stL f).map (Value.int .u64)).toArray) (w : World) (ht : Tabs w) :
    Calls Tryd.prog 37 #[.agg A] w fun e w' => e = .returned (arrV (rdsL f 24)) ∧ Below w.heap.size w w' := by
  have HA : Hid _ := hA
  have HF : Hid (∀ i, f i < 18446744073709551616) := hf
  clear hA hf
  go_enter Tryd.func37, Tryd.ntmps37
  go_wp2
  rw [HA.out]
  obtain ⟨W, hW, hI, hs⟩ := two_rows f w _ zeros25 ht
  rw [hW]
  clear hW ht
  go_loopw [4] (fun i wr => ∃ j : Nat, j ≤ 24 ∧ i = .int .i64 j ∧ KI w (rdsL f j) wr) (fun i _ => 24 - (intOf i).toNat)
  case atStart => exact ⟨0, by omega, rfl, hI⟩
  case round =>
    obtain ⟨j, hj, rfl, hI2⟩ := hrel
    clear hI hs
    by_cases hlt : j < 24
    · have hd : decide ((j : Int) < 24) = true := decide_eq_true (by omega)
      have hjI : (j : Int) < 24 := by omega
      have r1 := hI2.a
      go_wp2_with (refine wpList_load_row rfl 41 _ rfl rfl r1 _ Tryd.underlying41 rfl (arrInfo _) ?_)
      refine (kRound_in _ (rdsL f j) (rdsL_lt f HF.out j (by omega)) rfl j hlt _ hI2.t).mono ?_
      rintro e w2 ⟨rfl, hB⟩
      have hI3 := hI2.kept hB
      have r2 := hI3.a
      clear r1 hI2 hB
      go_wp2_with ((refine wpList_store_row rfl 41 _ _ rfl (stL (rdL (rdsL f j) j)) rfl rfl r2 (by simp [stL_length]) (arrInfo _) ?_; intro w3 r3 hw))
      have hI4 : KI w (rdsL f (j + 1)) w3 := hI3.whole r3 hw
      go_roundw
      case rel => exact ⟨j + 1, by omega, by go_num, hI4⟩
      case measure => simp [intOf]; omega
    · have hje : j = 24 := by omega
      subst hje
      have r1 := hI2.a
      have r2 := hI2.r
      go_wp2_with (first | refine wpList_load_row rfl 41 _ rfl rfl r1 _ Tryd.underlying41 rfl (arrInfo _) ?_ | (refine wpList_store_row rfl 41 _ _ rfl (stL (rdsL f 24)) rfl rfl r2 (by simp [stL_length]) (arrInfo _) ?_; intro w2 r3 hw))
      refine bodyPost_row (p := 2) (ty := 41) rfl rfl rfl r3 Tryd.underlying41 rfl (arrInfo _) ?_
      exact ⟨rfl, hw.below _ _ (by omega) hI2.b⟩
end Go.Proofs.YtfiefohdceokdaaDoor

/- Several states on their way. -/
namespace Go.Proofs.YtfiefohdceokdaaDoor
open Go.ChangeShapes Go.WideShapes Go.ChangeAt Go.RowKit
set_option linter.unusedSimpArgs false
set_option linter.unusedVariables false

theorem max25 {f : Nat → Nat} : (stL f).length ≤ maxLen := by rw [stL_length]; simp [maxLen]
/-- A function of several states on its way. -/
structure St (w0 : World) (L : List (Nat × (Nat → Nat))) (w : World) : Prop where
  rows : ∀ p ∈ L, RowAt .u64 41 p.1 25 (stL p.2) w
  b : Below w0.heap.size w0 w
  t : Tabs w
theorem St.kept {w0 w w' : World} {L : List (Nat × (Nat → Nat))} (h : St w0 L w) (hb : Below w.heap.size w w') : St w0 L w' := ⟨fun p hp => (h.rows p hp).kept hb, stepB h.b hb, h.t.kept hb⟩
theorem St.step {w0 w w' : World} {o : Obj} {L : List (Nat × (Nat → Nat))} {F : Nat → Nat} (h : St w0 L w) (hr : RowAt .u64 41 w.heap.size 25 (stL F) w') (hw : Wrote w.heap.size (w.alloc o) w') : St w0 ((w.heap.size, F) :: L) w' := by
  have h1 := h.kept (growB o)
  refine ⟨fun p hp => ?_, hw.below _ _ h.b.size h1.b, h1.t.wrote hw h.t.two⟩
  rcases List.mem_cons.1 hp with rfl | hp
  · exact hr
  · refine (h1.rows p hp).wrote hw ?_
    have := (h.rows p hp).lt
    omega
theorem St.fresh {w : World} {cs : Array Value} {F : Nat → Nat} (ht : Tabs w) (h : cs = ((stL F).map (Value.int .u64)).toArray) : St w [(w.heap.size, F)] (w.alloc (.cells cs 41)) := by
  refine ⟨fun p hp => ?_, growB _, ht.kept (growB _)⟩
  obtain rfl := List.mem_singleton.1 hp
  exact RowAt.fresh (stL F) h rfl (stL_length F).symm (stL_ne F) max25
theorem St.cell {w0 w : World} {L : List (Nat × (Nat → Nat))} (h : St w0 L w) (g : Nat) (F : Nat → Nat) (hp : (g, F) ∈ L) (j : Nat) (hj : j < 25) (v : Int) (hv : ((F j : Nat) : Int) = v) : w.cell? ⟨g, j, none⟩ = some (.int .u64 v) := by
  have := (h.rows (g, F) hp).cell (j := j) (by rw [stL_length]; exact hj)
  rw [stL_get _ _ hj] at this
  rw [this, ← hv]
end Go.Proofs.YtfiefohdceokdaaDoor
