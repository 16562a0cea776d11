/- What functions of the program, or of the reference, answer: contracts; several texts in one. -/
import Derived.Test.YtliiofjcghdjoaaDoorGa
import Derived.Test.YtliiofjcghdjoaaDoorBase
import Derived.Test.YtliiofjcghdjoaaDoorRows
import Derived.Deep.QuietTactic
import Derived.BigQuiet
import Derived.WalkSpells
import Derived.RegionTactic
import Derived.BigRegion
import Derived.OwnWalk
import Derived.Deep.DeepCutAuto
import Derived.Test.YtliiofjcghdjoaaDoorChecked

/- Timers: contracts of package session, second part. -/
namespace Go.Proofs.YtliiofjcghdjoaaDoor
open Go.ChangeShapes Go.WideShapes Go.ChangeAt Go.RowKit
set_option linter.unusedSimpArgs false
set_option linter.unusedVariables false

/-- A timer's cells: rules, when it was said, how often again. -/
def tiC (r : Rl) (last : Nat) (tries : Int) : List Value := [.int .u64 (r.retry : Int), .int .u64 (r.rmax : Int), .int .i64 r.tries, .int .u64 (r.rekey : Int), .int .u64 (r.expire : Int), .int .u64 (r.rcount : Int), .int .u64 (r.ecount : Int), .int .u64 (last : Int), .int .i64 tries]
theorem info_rl : (Tryd.prog.info? 24).map (·.size) = some 7 := by kernel_rfl
theorem build_ti (r0 r1 : Nat) (r2 : Int) (r3 r4 r5 r6 n : Nat) (w : World) : (Instr.build 73 #[(0, .agg #[.int .u64 (r0 : Int), .int .u64 (r1 : Int), .int .i64 r2, .int .u64 (r3 : Int), .int .u64 (r4 : Int), .int .u64 (r5 : Int), .int .u64 (r6 : Int)]), (1, .int .u64 (n : Int))]).run Tryd.prog w = .ok (.agg #[.int .u64 (r0 : Int), .int .u64 (r1 : Int), .int .i64 r2, .int .u64 (r3 : Int), .int .u64 (r4 : Int), .int .u64 (r5 : Int), .int .u64 (r6 : Int), .int .u64 (n : Int), .int .i64 0]) w := by kernel_rfl
theorem below_drewN22 {B : Nat} {w wr : World} (h : Below B w wr) : ∀ n, Below B w (wr.drewN n)
  | 0 => h
  | n + 1 => (below_drewN22 h n).drew
theorem retB22s {b c : Bool} (h : c = b) : Ending.returned (.bool b) = Ending.returned (.bool c) := by rw [h]

set_option maxRecDepth 100000 in
set_option maxHeartbeats 4000000 in
theorem cstart_any (r : Rl) (now : Nat) (A : Array Value) (hA : A = (rlC r).toArray) (w : World) :
    Calls Tryd.prog 11 #[.agg A, .int .u64 (now : Int)] w fun e w' => ∃ g, e = .returned (.pointer (some ⟨g, 0, none⟩)) ∧ w.heap.size ≤ g ∧ BlkAt g 73 (tiC r now 0) w' ∧ Below w.heap.size w w' := by
  have HA : Hid (A = (rlC r).toArray) := hA
  clear hA
  go_enter Tryd.func11, Tryd.ntmps11
  go_wp2_with (refine wpList_box_blk rfl 24 _ rfl (rlC r) (by rw [← HA.out]; rfl) ?_)
  intro w1 r1 b1 s1
  obtain ⟨g, hg⟩ : ∃ n : Nat, n = w.heap.size := ⟨_, rfl⟩
  rw [← hg] at r1 ⊢
  have R1 : Hid (BlkAt g 24 (rlC r) w1) := r1
  have HB : Hid (Below w.heap.size w w1) := b1
  have HS : Hid (g ≤ w1.heap.size) := (by rw [hg]; exact b1.size : g ≤ w1.heap.size)
  clear r1 b1 s1 HA
  go_wp2_with (first | refine wpList_load_part rfl 24 _ rfl rfl [] (rlC r) [] R1.out (by simp) rfl Tryd.underlying24 rfl info_rl ?_ | refine wpList_buildB rfl 73 _ rfl #[(0, .agg (rlC r).toArray), (1, .int .u64 (now : Int))] (by go_simp; done) _ (build_ti _ _ _ _ _ _ _ _ _) ?_ | refine wpList_box_blk rfl 73 _ rfl (tiC r now 0) rfl ?_)
  intro w2 r2 b2 s2
  have H2 : Hid (BlkAt w1.heap.size 73 (tiC r now 0) w2 ∧ Below w.heap.size w w2) := ⟨r2, stepB HB.out b2⟩
  clear r2 b2 s2
  go_wp2
  go_ret
  exact ⟨_, rfl, HB.out.size, H2.out.1, H2.out.2⟩

set_option maxRecDepth 100000 in
set_option maxHeartbeats 4000000 in
theorem cdue_any (g : Nat) (r : Rl) (hr : RlW r) (last : Nat) (tries : Int) (now : Nat) (hl : last < 18446744073709551616) (ht : tries ≤ 9223372036854775807) (hn : now < 18446744073709551616) (w : World) (hB : BlkAt g 73 (tiC r last tries) w) :
    Calls Tryd.prog 13 #[.pointer (some ⟨g, 0, none⟩), .int .u64 (now : Int)] w fun e w' => e = .returned (.bool (duB r last tries now)) ∧ Below w.heap.size w w' := by
  have HB : Hid (BlkAt g 73 (tiC r last tries) w) := hB
  have HR : Hid (RlW r) := hr
  have HL : Hid (last < 18446744073709551616) := hl
  have HN : Hid (now < 18446744073709551616) := hn
  have HT : Hid (tries ≤ 9223372036854775807) := ht
  have HD : Hid (duB r last tries now = decide (wtN r tries ≤ snN last now)) := rfl
  obtain ⟨G, hG⟩ : ∃ G, G = duB r last tries now := ⟨_, rfl⟩
  rw [← hG] at HD ⊢
  clear hB hr hl hn hG ht
  obtain ⟨x, hx⟩ : ∃ x, x = snN last now := ⟨_, rfl⟩
  obtain ⟨y, hy⟩ : ∃ y, y = wtN r tries := ⟨_, rfl⟩
  rw [← hx, ← hy] at HD
  have HX : Hid (x = snN last now) := hx
  have HY : Hid (y = wtN r tries) := hy
  have dI : decide ((y : Int) ≤ (x : Int)) = G := by rw [HD.out]; exact decide_eq_decide.2 (by omega)
  have dN : decide (y ≤ x) = G := by rw [HD.out]
  clear hx hy
  go_enter Tryd.func13, Tryd.ntmps13
  go_wp2_with fail
  refine wpG_begin (by kernel_rfl) ?_
  refine gU_ 0 rfl ⟨_, by intro W hW; go_simp <;> with_reducible rfl, ?_⟩
  try simp only [Act.put, pA_, pB_, pC_]
  refine gU_ 1 rfl ⟨_, by intro W hW; go_simp <;> with_reducible rfl, ?_⟩
  try simp only [Act.put, pA_, pB_, pC_]
  refine gU_ 2 rfl ⟨_, by intro W hW; go_simp <;> with_reducible rfl, ?_⟩
  try simp only [Act.put, pA_, pB_, pC_]
  refine gU_ 3 rfl ⟨_, by intro W hW; go_simp <;> with_reducible rfl, ?_⟩
  try simp only [Act.put, pA_, pB_, pC_]
  refine gU_ 4 rfl ⟨_, by intro W hW; go_simp <;> with_reducible rfl, ?_⟩
  try simp only [Act.put, pA_, pB_, pC_]
  refine gU_ 5 rfl ⟨_, by intro W hW; go_simp <;> with_reducible rfl, ?_⟩
  try simp only [Act.put, pA_, pB_, pC_]
  refine gU_ 6 rfl ⟨_, by intro W hW; have cW : W.cell? ⟨g, 7, none⟩ = some (.int .u64 (last : Int)) := (HB.out.drew.kept hW).cell 7; go_simp <;> with_reducible rfl, ?_⟩
  try simp only [Act.put, pA_, pB_, pC_]
  refine gU_ 7 rfl ⟨_, by intro W hW; go_simp <;> with_reducible rfl, ?_⟩
  try simp only [Act.put, pA_, pB_, pC_]
  refine gU_ 9 rfl ⟨_, by intro W hW; go_simp <;> with_reducible rfl, ?_⟩
  try simp only [Act.put, pA_, pB_, pC_]
  refine gU_ 10 rfl ⟨_, by intro W hW; go_simp <;> with_reducible rfl, ?_⟩
  try simp only [Act.put, pA_, pB_, pC_]
  refine gU_ 11 rfl ⟨_, by intro W hW; go_simp <;> with_reducible rfl, ?_⟩
  try simp only [Act.put, pA_, pB_, pC_]
  refine gU_ 12 rfl ⟨_, by intro W hW; refine Eq.trans (exec_load_part 24 _ (by rfl) (by rfl) [] (rlC r) [.int .u64 (last : Int), .int .i64 tries] HB.out.drew hW (by rfl) rfl Tryd.underlying24 rfl info_rl) ?_; with_reducible rfl, ?_⟩
  try simp only [Act.put, pA_, pB_, pC_]
  refine gU_ 13 rfl ⟨_, by intro W hW; go_simp <;> with_reducible rfl, ?_⟩
  try simp only [Act.put, pA_, pB_, pC_]
  refine gU_ 14 rfl ⟨_, by intro W hW; go_simp <;> with_reducible rfl, ?_⟩
  try simp only [Act.put, pA_, pB_, pC_]
  refine gU_ 15 rfl ⟨_, by intro W hW; go_simp <;> with_reducible rfl, ?_⟩
  try simp only [Act.put, pA_, pB_, pC_]
  refine gU_ 16 rfl ⟨_, by intro W hW; have cW : W.cell? ⟨g, 8, none⟩ = some (.int .i64 tries) := (HB.out.drew.kept hW).cell 8; go_simp <;> with_reducible rfl, ?_⟩
  try simp only [Act.put, pA_, pB_, pC_]
  refine gD_ 8 fun K hK => ?_
  go_simp
  refine (csince_any last now HL.out HN.out _).mono ?_
  rintro e wa ⟨rfl, rfl⟩
  rw [← HX.out]
  refine hK.out _ _ (Below.refl _ _) ?_
  clear hK K
  try simp only [Act.put, pA_, pB_, pC_]
  refine gD_ 17 fun K hK => ?_
  go_simp
  refine (cwait_any r HR.out tries HT.out _ rfl _).mono ?_
  rintro e wb ⟨rfl, bb⟩
  rw [← HY.out]
  refine hK.out _ _ bb ?_
  clear hK K
  try simp only [Act.put, pA_, pB_, pC_]
  refine gU_ 18 rfl ⟨_, by intro W hW; go_simp <;> with_reducible rfl, ?_⟩
  try simp only [Act.put, pA_, pB_, pC_]
  refine gU_ 19 rfl ⟨_, by intro W hW; go_simp <;> with_reducible rfl, ?_⟩
  try simp only [Act.put, pA_, pB_, pC_]
  refine gU_ 20 rfl ⟨_, by intro W hW; go_simp <;> with_reducible rfl, ?_⟩
  try simp only [Act.put, pA_, pB_, pC_]
  refine wpG_done (by kernel_rfl) ?_
  have HB3 : Hid (Below w.heap.size w wb) := stepB (Below.refl _ w).drew bb
  clear bb
  go_wp2
  go_ret
  exact ⟨rfl, HB3.out⟩

set_option maxRecDepth 100000 in
set_option maxHeartbeats 4000000 in
theorem cagain_any (g : Nat) (r : Rl) (last : Nat) (tries : Int) (now : Nat) (ht : -9223372036854775808 ≤ tries ∧ tries ≤ 9223372036854775807) (hr : RlW r) (w : World) (hB : BlkAt g 73 (tiC r last tries) w) :
    Calls Tryd.prog 15 #[.pointer (some ⟨g, 0, none⟩), .int .u64 (now : Int)] w fun e w' => e = .returned (.bool (agT r last tries now).2) ∧ BlkAt g 73 (tiC r (agT r last tries now).1.1 (agT r last tries now).1.2) w' ∧ Chg (fun i => i = g) w w' := by
  have HB : Hid (BlkAt g 73 (tiC r last tries) w) := hB
  have htr := hr.tries
  have HG : Hid (agT r last tries now = if r.tries ≤ tries then ((last, tries), false) else ((now, tries + 1), true)) := rfl
  obtain ⟨G, hG⟩ : ∃ G, G = agT r last tries now := ⟨_, rfl⟩
  rw [← hG] at HG ⊢
  have c8 : w.cell? ⟨g, 8, none⟩ = some (.int .i64 tries) := hB.cell 8
  have c2 : w.cell? ⟨g, 2, none⟩ = some (.int .i64 r.tries) := hB.cell 2
  obtain ⟨R2, hR2⟩ : ∃ x, x = r.tries := ⟨_, rfl⟩
  rw [← hR2] at HG htr c2
  clear hB hG hR2 hr
  by_cases h : R2 ≤ tries
  · have d : decide (R2 ≤ tries) = true := decide_eq_true h
    have hG : G = ((last, tries), false) := by rw [HG.out, if_pos h]
    subst hG
    clear h HG ht htr
    go_enter Tryd.func15, Tryd.ntmps15
    go_wp2_with (go_quiet (fail))
    go_wp2
    go_ret
    have bq := below_drewN22 (Below.refl w.heap.size w) nq
    exact ⟨rfl, HB.out.kept bq, Chg.of_below bq⟩
  · have d : decide (R2 ≤ tries) = false := decide_eq_false h
    have hG : G = ((now, tries + 1), true) := by rw [HG.out, if_neg h]
    subst hG
    have hwr : IntKind.i64.wrap (tries + 1) = tries + 1 := by rw [IntKind.wrap_i64]; omega
    have c7 : w.cell? ⟨g, 7, none⟩ = some (.int .u64 (last : Int)) := HB.out.cell 7
    have f7 := HB.out.free 7
    have f8 := HB.out.free 8
    clear h HG ht htr
    go_enter Tryd.func15, Tryd.ntmps15
    go_wp2_with (go_quiet (fail))
    go_wp2
    go_ret
    have bq := below_drewN22 (Below.refl w.heap.size w) nq
    have hB1 := HB.out.kept bq
    generalize w.drewN nq = w1 at bq hB1 ⊢
    have hB2 : BlkAt g 73 (tiC r now tries) (w1.setCell ⟨g, 7, none⟩ (.int .u64 (now : Int))) := hB1.set 7 _
    have hB3 : BlkAt g 73 (tiC r now (tries + 1)) ((w1.setCell ⟨g, 7, none⟩ (.int .u64 (now : Int))).setCell ⟨g, 8, none⟩ (.int .i64 (tries + 1))) := hB2.set 8 _
    exact ⟨rfl, hB3, ((Chg.of_below bq).trans (Chg.of_wrote (Wrote.set g 7 w1 (.int .u64 (now : Int))))).trans (Chg.of_wrote (Wrote.set g 8 _ _))⟩
end Go.Proofs.YtliiofjcghdjoaaDoor

/- Which numbers came, as the document has it: plain mathematics. No program's text is named. -/
namespace Go.Proofs.YtliiofjcghdjoaaDoor
set_option linter.unusedSimpArgs false
set_option linter.unusedVariables false

/-- The greatest one of some numbers. -/
def tpN : List Nat → Nat
  | [] => 0
  | x :: l => max x (tpN l)
theorem tpN_snoc : ∀ (l : List Nat) (x : Nat), tpN (l ++ [x]) = max (tpN l) x
  | [], x => by simp [tpN]
  | y :: l, x => by
    simp only [List.cons_append, tpN, tpN_snoc l x]
    omega
theorem tpN_ge : ∀ {l : List Nat} {x : Nat}, x ∈ l → x ≤ tpN l
  | y :: l, x, h => by
    rcases List.mem_cons.1 h with rfl | h
    · simp only [tpN]; omega
    · have := tpN_ge h
      simp only [tpN]
      omega
theorem tpN_mem : ∀ {l : List Nat}, l ≠ [] → tpN l ∈ l
  | [x], _ => by simp [tpN]
  | x :: y :: l, _ => by
    have := tpN_mem (l := y :: l) (by simp)
    rw [show tpN (x :: y :: l) = max x (tpN (y :: l)) from rfl]
    rcases Nat.le_total x (tpN (y :: l)) with h | h
    · rw [Nat.max_eq_right h]; exact List.mem_cons_of_mem _ this
    · rw [Nat.max_eq_left h]; exact List.mem_cons_self ..
theorem tpN_lt {l : List Nat} {m : Nat} (hm : 0 < m) (h : ∀ x ∈ l, x < m) : tpN l < m := by
  by_cases h0 : l = []
  · subst h0; exact hm
  · exact h _ (tpN_mem h0)
/-- May a number come? -/
def cmE (l : List Nat) (n : Nat) : Int := if n ∈ l then 43 else if n < tpN l ∧ 128 ≤ tpN l - n then 43 else 0
/-- It comes. -/
def mkL (l : List Nat) (n : Nat) : List Nat × Int := if cmE l n = 0 then (l ++ [n], 0) else (l, cmE l n)
theorem cmE_ways (l : List Nat) (n : Nat) : (cmE l n = 43 ∧ (n ∈ l ∨ (n < tpN l ∧ 128 ≤ tpN l - n))) ∨ (cmE l n = 0 ∧ n ∉ l ∧ ¬ (n < tpN l ∧ 128 ≤ tpN l - n)) := by
  unfold cmE
  by_cases h : n ∈ l
  · rw [if_pos h]; exact .inl ⟨rfl, .inl h⟩
  · rw [if_neg h]
    by_cases h2 : n < tpN l ∧ 128 ≤ tpN l - n
    · rw [if_pos h2]; exact .inl ⟨rfl, .inr h2⟩
    · rw [if_neg h2]; exact .inr ⟨rfl, h, h2⟩
/-- Numbers as cells. -/
def nU (l : List Nat) : List Int := l.map fun x => ((x : Nat) : Int)
theorem nU_length (l : List Nat) : (nU l).length = l.length := by simp [nU]
theorem nU_getD (l : List Nat) (i : Nat) : (nU l).getD i 0 = ((l.getD i 0 : Nat) : Int) := by
  unfold nU
  by_cases h : i < l.length <;> simp [h]
theorem nU_snoc (l : List Nat) (x : Nat) : nU (l ++ [x]) = nU l ++ [((x : Nat) : Int)] := by simp [nU]
theorem take_snoc {l : List Nat} {i : Nat} (h : i < l.length) : l.take (i + 1) = l.take i ++ [l.getD i 0] := by
  rw [List.take_succ_eq_append_getElem h]
  simp [h]
theorem mem_take {l : List Nat} {i n : Nat} (h : i < l.length) (hn : n ∉ l.take i) (he : l.getD i 0 ≠ n) : n ∉ l.take (i + 1) := by
  rw [take_snoc h]
  intro hm
  rcases List.mem_append.1 hm with h1 | h1
  · exact hn h1
  · exact he (List.mem_singleton.1 h1).symm
end Go.Proofs.YtliiofjcghdjoaaDoor

/- The document's steps Rho, Pi, Chi and the constants' bits, as far as they are made at each point of their loops: plain mathematics. No program's text is named. -/
namespace Go.Proofs.YtliiofjcghdjoaaDoor
set_option linter.unusedSimpArgs false
set_option linter.unusedVariables false

/-! ### One bit more anywhere -/
theorem ofB_flip (g : Nat → Bool) (p : Nat) (hg : g p = false) : ∀ n, p < n → ofB (fun i => if i = p then true else g i) n = ofB g n + 2 ^ p
  | 0, h => by omega
  | n + 1, h => by
    rw [ofB_succ, ofB_succ]
    by_cases e : p = n
    · subst e
      have h1 : ofB (fun i => if i = p then true else g i) p = ofB g p := ofB_congr p fun i hi => by simp [show i ≠ p by omega]
      rw [h1]
      simp [hg]
    · have ih := ofB_flip g p hg n (by omega)
      rw [ih]
      simp only [show n ≠ p from fun h => e h.symm, if_false]
      omega

/-! ### Pi -/
def piF (f : Nat → Nat) (i : Nat) : Nat := f ((i % 5 + 3 * (i / 5)) % 5 + 5 * (i % 5))
def piP (f : Nat → Nat) (X Y : Nat) (i : Nat) : Nat := if i % 5 < X ∨ (i % 5 = X ∧ i / 5 < Y) then piF f i else 0
theorem piP_start (f : Nat → Nat) : stL (fun _ => 0) = stL (piP f 0 0) := stL_congr fun i hi => by simp [piP]
theorem piP_end (f : Nat → Nat) (X : Nat) : stL (piP f X 5) = stL (piP f (X + 1) 0) := stL_congr fun i hi => by
  unfold piP
  have h1 : (i % 5 < X ∨ i % 5 = X ∧ i / 5 < 5) ↔ (i % 5 < X + 1 ∨ i % 5 = X + 1 ∧ i / 5 < 0) := by omega
  simp only [h1]
theorem piP_done (f : Nat → Nat) : stL (piP f 5 0) = stL (piF f) := stL_congr fun i hi => by
  unfold piP
  simp [show i % 5 < 5 by omega]
theorem piP_set (f : Nat → Nat) (X Y : Nat) (hX : X < 5) (hY : Y < 5) : (stL (piP f X Y)).set (X + 5 * Y) ((f ((X + 3 * Y) % 5 + 5 * X) : Nat) : Int) = stL (piP f X (Y + 1)) := by
  rw [stL_set]
  refine stL_congr fun i hi => ?_
  by_cases e : i = X + 5 * Y
  · subst e
    have e1 : (X + 5 * Y) % 5 = X := by omega
    have e2 : (X + 5 * Y) / 5 = Y := by omega
    simp [piP, piF, e1, e2]
  · simp only [e, if_false]
    unfold piP
    have h1 : (i % 5 < X ∨ i % 5 = X ∧ i / 5 < Y) ↔ (i % 5 < X ∨ i % 5 = X ∧ i / 5 < Y + 1) := by omega
    simp only [h1]

/-! ### Chi -/
def chB (f : Nat → Nat) (x y z : Nat) : Bool := decide ((bitN f x y z + if bitN f ((x + 1) % 5) y z = 0 ∧ bitN f ((x + 2) % 5) y z = 1 then 1 else 0) % 2 = 1)
def chF (f : Nat → Nat) (i : Nat) : Nat := ofB (chB f (i % 5) (i / 5)) 64
def chP (f : Nat → Nat) (X Y Z : Nat) (i : Nat) : Nat :=
  if i % 5 < X ∨ (i % 5 = X ∧ i / 5 < Y) then chF f i else if i % 5 = X ∧ i / 5 = Y then ofB (chB f X Y) Z else 0
theorem chP_start (f : Nat → Nat) : stL (fun _ => 0) = stL (chP f 0 0 0) := stL_congr fun i hi => by simp [chP, ofB]
theorem chP_laneEnd (f : Nat → Nat) (X Y : Nat) : stL (chP f X Y 64) = stL (chP f X (Y + 1) 0) := stL_congr fun i hi => by
  unfold chP
  by_cases h1 : i % 5 < X ∨ (i % 5 = X ∧ i / 5 < Y)
  · rw [if_pos h1, if_pos (by omega)]
  · by_cases h2 : i % 5 = X ∧ i / 5 = Y
    · rw [if_neg h1, if_pos h2, if_pos (by omega)]
      unfold chF
      rw [h2.1, h2.2]
    · rw [if_neg h1, if_neg h2, if_neg (by omega)]
      split <;> simp [ofB]
theorem chP_colEnd (f : Nat → Nat) (X : Nat) : stL (chP f X 5 0) = stL (chP f (X + 1) 0 0) := stL_congr fun i hi => by
  unfold chP
  by_cases h1 : i % 5 < X ∨ (i % 5 = X ∧ i / 5 < 5)
  · rw [if_pos h1, if_pos (by omega)]
  · rw [if_neg h1, if_neg (by omega), if_neg (by omega)]
    split <;> simp [ofB]
theorem chP_done (f : Nat → Nat) : stL (chP f 5 0 0) = stL (chF f) := stL_congr fun i hi => by
  unfold chP
  rw [if_pos (by omega)]
theorem chP_skip (f : Nat → Nat) (X Y Z : Nat) (h : chB f X Y Z = false) : stL (chP f X Y Z) = stL (chP f X Y (Z + 1)) := stL_congr fun i hi => by
  unfold chP
  by_cases h1 : i % 5 < X ∨ (i % 5 = X ∧ i / 5 < Y)
  · rw [if_pos h1, if_pos h1]
  · rw [if_neg h1, if_neg h1]
    simp [ofB_succ, h]
theorem chP_lane (f : Nat → Nat) (X Y Z : Nat) (hX : X < 5) : chP f X Y Z (X + 5 * Y) = ofB (chB f X Y) Z := by
  have e1 : (X + 5 * Y) % 5 = X := by omega
  have e2 : (X + 5 * Y) / 5 = Y := by omega
  simp [chP, e1, e2]
theorem chP_put (f : Nat → Nat) (X Y Z : Nat) (hX : X < 5) (h : chB f X Y Z = true) :
    (stL (chP f X Y Z)).set (X + 5 * Y) ((chP f X Y Z (X + 5 * Y) + 2 ^ Z : Nat) : Int) = stL (chP f X Y (Z + 1)) := by
  rw [stL_set]
  refine stL_congr fun i hi => ?_
  by_cases e : i = X + 5 * Y
  · subst e
    simp only [if_true]
    rw [chP_lane f X Y Z hX, chP_lane f X Y (Z + 1) hX, ofB_succ]
    simp [h]
  · simp only [e, if_false]
    unfold chP
    have h2 : ¬ (i % 5 = X ∧ i / 5 = Y) := by omega
    simp only [h2, if_false]
theorem pow_room (g : Nat → Bool) (Z : Nat) (hZ : Z < 64) : ofB g Z + 2 ^ Z < 18446744073709551616 := by
  have h1 := ofB_lt g Z
  have h2 := Nat.pow_le_pow_right (show 0 < 2 by decide) (show Z + 1 ≤ 64 by omega)
  have h3 : 2 ^ 64 = 18446744073709551616 := by decide
  rw [Nat.pow_succ] at h2
  omega

/-! ### Rho -/
/-- Where the walk over the lanes stands behind t steps, as x and y. -/
def rhXY : Nat → Nat × Nat
  | 0 => (1, 0)
  | t + 1 => ((rhXY t).2, (2 * (rhXY t).1 + 3 * (rhXY t).2) % 5)
def rhPos (t : Nat) : Nat := (rhXY t).1 + 5 * (rhXY t).2
def rhBy (t : Nat) : Nat := (t + 1) * (t + 2) / 2 % 64
/-- At which step lane i comes. -/
def rhTau (i : Nat) : Nat := (List.range 24).findIdx fun t => rhPos t == i
theorem rhXY_lt : ∀ t, t < 25 → (rhXY t).1 < 5 ∧ (rhXY t).2 < 5 := by decide
theorem rhTau_pos : ∀ t, t < 24 → rhTau (rhPos t) = t ∧ rhPos t ≠ 0 := by decide
theorem rhPos_tau : ∀ i, i < 25 → i ≠ 0 → rhTau i < 24 ∧ rhPos (rhTau i) = i := by decide
/-- The lane that is turned by step t, as far as its first z bits have come. -/
def rhG (f : Nat → Nat) (t z p : Nat) : Bool := decide ((p + 64 - rhBy t) % 64 < z) && decide (bitN f (rhXY t).1 (rhXY t).2 ((p + 64 - rhBy t) % 64) = 1)
def rhP (f : Nat → Nat) (t z : Nat) (i : Nat) : Nat :=
  if i = 0 then f 0 else if rhTau i < t then ofB (rhG f (rhTau i) 64) 64 else if rhTau i = t then ofB (rhG f t z) 64 else 0
def rhF (f : Nat → Nat) (i : Nat) : Nat := if i = 0 then f 0 else ofB (rhG f (rhTau i) 64) 64
theorem rhBy_lt (t : Nat) : rhBy t < 64 := Nat.mod_lt _ (by decide)
theorem rhG_zero (f : Nat → Nat) (t : Nat) : ofB (rhG f t 0) 64 = 0 := by
  have h : ∀ n, ofB (fun _ => false) n = 0 := by
    intro n
    induction n with
    | zero => rfl
    | succ n ih => simp [ofB_succ, ih]
  rw [ofB_congr (h := fun _ => false) 64 (fun i hi => by simp [rhG]), h]
theorem rhP_start (f : Nat → Nat) : (stL (fun _ => 0)).set 0 ((f 0 : Nat) : Int) = stL (rhP f 0 0) := by
  rw [stL_set]
  refine stL_congr fun i hi => ?_
  unfold rhP
  by_cases h : i = 0
  · simp [h]
  · simp only [h, if_false, Nat.not_lt_zero]
    split
    · exact (rhG_zero f 0).symm
    · rfl
theorem rhP_stepEnd (f : Nat → Nat) (t : Nat) (ht : t < 24) : stL (rhP f t 64) = stL (rhP f (t + 1) 0) := stL_congr fun i hi => by
  unfold rhP
  by_cases h : i = 0
  · simp [h]
  · simp only [h, if_false]
    by_cases h1 : rhTau i < t
    · simp [h1, show rhTau i < t + 1 by omega]
    · by_cases h2 : rhTau i = t
      · simp [h2]
      · simp only [h1, h2, show ¬ rhTau i < t + 1 by omega, if_false]
        split
        · exact (rhG_zero f (t + 1)).symm
        · rfl
theorem rhP_done (f : Nat → Nat) : stL (rhP f 24 0) = stL (rhF f) := stL_congr fun i hi => by
  unfold rhP rhF
  by_cases h : i = 0
  · simp [h]
  · simp [h, (rhPos_tau i hi h).1]
theorem rhG_succ (f : Nat → Nat) (t z : Nat) (hz : z < 64) (i : Nat) (hi : i < 64) :
    rhG f t (z + 1) i = if i = (z + rhBy t) % 64 then decide (bitN f (rhXY t).1 (rhXY t).2 z = 1) else rhG f t z i := by
  have hb := rhBy_lt t
  unfold rhG
  by_cases e : i = (z + rhBy t) % 64
  · have e2 : (i + 64 - rhBy t) % 64 = z := by omega
    simp [e2, e.symm]
  · have e2 : (i + 64 - rhBy t) % 64 ≠ z := by omega
    simp only [e, if_false]
    have e3 : ((i + 64 - rhBy t) % 64 < z + 1) ↔ ((i + 64 - rhBy t) % 64 < z) := by omega
    simp only [e3]
theorem rhG_fresh (f : Nat → Nat) (t z : Nat) (hz : z < 64) : rhG f t z ((z + rhBy t) % 64) = false := by
  have hb := rhBy_lt t
  unfold rhG
  have e2 : ((z + rhBy t) % 64 + 64 - rhBy t) % 64 = z := by omega
  simp [e2]
theorem rhG_skip (f : Nat → Nat) (t z : Nat) (hz : z < 64) (h : bitN f (rhXY t).1 (rhXY t).2 z ≠ 1) : ofB (rhG f t z) 64 = ofB (rhG f t (z + 1)) 64 :=
  ofB_congr 64 fun i hi => by
    rw [rhG_succ f t z hz i hi]
    by_cases e : i = (z + rhBy t) % 64
    · subst e
      rw [rhG_fresh f t z hz]
      simp [h]
    · simp [e]
theorem rhG_put (f : Nat → Nat) (t z : Nat) (hz : z < 64) (h : bitN f (rhXY t).1 (rhXY t).2 z = 1) : ofB (rhG f t z) 64 + 2 ^ ((z + rhBy t) % 64) = ofB (rhG f t (z + 1)) 64 := by
  rw [← ofB_flip (rhG f t z) ((z + rhBy t) % 64) (rhG_fresh f t z hz) 64 (Nat.mod_lt _ (by decide))]
  refine (ofB_congr 64 fun i hi => ?_).symm
  rw [rhG_succ f t z hz i hi]
  by_cases e : i = (z + rhBy t) % 64 <;> simp [e, h]
theorem rhP_lane (f : Nat → Nat) (t z : Nat) (ht : t < 24) : rhP f t z (rhPos t) = ofB (rhG f t z) 64 := by
  obtain ⟨h1, h2⟩ := rhTau_pos t ht
  simp [rhP, h1, h2]
theorem rhP_skip (f : Nat → Nat) (t z : Nat) (hz : z < 64) (h : bitN f (rhXY t).1 (rhXY t).2 z ≠ 1) : stL (rhP f t z) = stL (rhP f t (z + 1)) := stL_congr fun i hi => by
  unfold rhP
  rw [rhG_skip f t z hz h]
theorem rhP_put (f : Nat → Nat) (t z : Nat) (ht : t < 24) (hz : z < 64) (h : bitN f (rhXY t).1 (rhXY t).2 z = 1) :
    (stL (rhP f t z)).set ((rhXY t).1 + 5 * (rhXY t).2) ((rhP f t z ((rhXY t).1 + 5 * (rhXY t).2) + 2 ^ ((z + rhBy t) % 64) : Nat) : Int) = stL (rhP f t (z + 1)) := by
  have hp : (rhXY t).1 + 5 * (rhXY t).2 = rhPos t := rfl
  rw [hp, stL_set]
  refine stL_congr fun i hi => ?_
  by_cases e : i = rhPos t
  · subst e
    simp only [if_true]
    rw [rhP_lane f t z ht, rhP_lane f t (z + 1) ht]
    exact rhG_put f t z hz h
  · simp only [e, if_false]
    unfold rhP
    by_cases h0 : i = 0
    · simp [h0]
    · have h1 : rhTau i ≠ t := by
        intro h2
        exact e (by rw [← h2]; exact ((rhPos_tau i hi h0).2).symm)
      simp [h0, h1]
theorem rhP_room (f : Nat → Nat) (t z : Nat) (ht : t < 24) (hz : z < 64) (h : bitN f (rhXY t).1 (rhXY t).2 z = 1) : rhP f t z ((rhXY t).1 + 5 * (rhXY t).2) + 2 ^ ((z + rhBy t) % 64) < 18446744073709551616 := by
  have hp : (rhXY t).1 + 5 * (rhXY t).2 = rhPos t := rfl
  rw [hp, rhP_lane f t z ht, rhG_put f t z hz h]
  exact ofB_64 _ _ (Nat.le_refl _)

/-! ### The bits of the constants -/
def rcStep (r : List Int) : List Int :=
  [r.getD 7 0 % 2, r.getD 0 0, r.getD 1 0, r.getD 2 0, (r.getD 3 0 + r.getD 7 0) % 2, (r.getD 4 0 + r.getD 7 0) % 2, (r.getD 5 0 + r.getD 7 0) % 2, r.getD 6 0]
def rcS : Nat → List Int
  | 0 => [1, 0, 0, 0, 0, 0, 0, 0]
  | n + 1 => rcStep (rcS n)
theorem rcS_ok : ∀ n, ∃ a b c d e f g h : Int, rcS n = [a, b, c, d, e, f, g, h] ∧ (0 ≤ a ∧ a ≤ 1) ∧ (0 ≤ b ∧ b ≤ 1) ∧ (0 ≤ c ∧ c ≤ 1) ∧ (0 ≤ d ∧ d ≤ 1) ∧ (0 ≤ e ∧ e ≤ 1) ∧ (0 ≤ f ∧ f ≤ 1) ∧ (0 ≤ g ∧ g ≤ 1) ∧ (0 ≤ h ∧ h ≤ 1)
  | 0 => ⟨1, 0, 0, 0, 0, 0, 0, 0, rfl, by decide, by decide, by decide, by decide, by decide, by decide, by decide, by decide⟩
  | n + 1 => by
    obtain ⟨a, b, c, d, e, f, g, h, he, ha, hb, hc, hd, he', hf, hg, hh⟩ := rcS_ok n
    refine ⟨h % 2, a, b, c, (d + h) % 2, (e + h) % 2, (f + h) % 2, g, ?_, by omega, ha, hb, hc, by omega, by omega, by omega, hg⟩
    show rcStep (rcS n) = _
    rw [he]
    rfl
end Go.Proofs.YtliiofjcghdjoaaDoor

/- The document's step Iota, rounds, and all rounds: plain mathematics. No program's text is named. -/
namespace Go.Proofs.YtliiofjcghdjoaaDoor
set_option linter.unusedSimpArgs false
set_option linter.unusedVariables false

/-- Bit t of the row that makes the constants. -/
def rcB (t : Nat) : Bool := decide ((rcS (t % 255)).getD 0 0 = 1)
def ioT (i J p : Nat) : Bool := (List.range J).any fun j => decide (p = 2 ^ j - 1) && rcB (j + 7 * i)
def ioG (x i J p : Nat) : Bool := Bool.xor (decide (x / 2 ^ p % 2 = 1)) (ioT i J p)
def ioL (x i J : Nat) : Nat := ofB (ioG x i J) 64
def ioF (f : Nat → Nat) (i k : Nat) : Nat := if k = 0 then ioL (f 0) i 7 else f k
def ioP (f : Nat → Nat) (i J k : Nat) : Nat := if k = 0 then ioL (f 0) i J else f k
theorem ioT_zero (i p : Nat) : ioT i 0 p = false := by simp [ioT]
theorem ioT_succ (i J p : Nat) : ioT i (J + 1) p = (ioT i J p || (decide (p = 2 ^ J - 1) && rcB (J + 7 * i))) := by
  simp [ioT, List.range_succ]
theorem ioT_fresh (i J : Nat) : ioT i J (2 ^ J - 1) = false := by
  unfold ioT
  rw [List.any_eq_false]
  intro j hj
  have hjJ := List.mem_range.1 hj
  have h1 := Nat.pow_lt_pow_right (show 1 < 2 by decide) hjJ
  have h2 := Nat.pow_pos (n := j) (show 0 < 2 by decide)
  have h3 : ¬ (2 ^ J - 1 = 2 ^ j - 1) := by omega
  simp [h3]
theorem ioL_zero (x i : Nat) (hx : x < 18446744073709551616) : ioL x i 0 = x := by
  have e := ofB_self x 64
  have h64 : (2 : Nat) ^ 64 = 18446744073709551616 := by decide
  rw [h64, Nat.mod_eq_of_lt hx] at e
  unfold ioL
  rw [← e]
  refine ofB_congr 64 fun p hp => ?_
  unfold ioG
  rw [ioT_zero, Bool.xor_false, e]
theorem ioL_skip (x i J : Nat) (h : rcB (J + 7 * i) = false) : ioL x i J = ioL x i (J + 1) := ofB_congr 64 fun p hp => by
  unfold ioG
  rw [ioT_succ, h]
  simp
theorem pos_lt (J : Nat) (hJ : J ≤ 6) : 2 ^ J - 1 < 64 := by
  have := Nat.pow_le_pow_right (show 0 < 2 by decide) hJ
  have h6 : 2 ^ 6 = 64 := by decide
  omega
theorem ioG_succ (x i J p : Nat) (h : rcB (J + 7 * i) = true) : ioG x i (J + 1) p = if p = 2 ^ J - 1 then !(ioG x i J p) else ioG x i J p := by
  unfold ioG
  rw [ioT_succ, h]
  by_cases e : p = 2 ^ J - 1
  · have hf := ioT_fresh i J
    rw [← e] at hf
    simp [e.symm, hf]
  · simp [e]
theorem ioL_up (x i J : Nat) (hJ : J ≤ 6) (h : rcB (J + 7 * i) = true) (hb : x / 2 ^ (2 ^ J - 1) % 2 = 0) : ioL x i (J + 1) = ioL x i J + 2 ^ (2 ^ J - 1) := by
  have hg : ioG x i J (2 ^ J - 1) = false := by unfold ioG; rw [ioT_fresh, hb]; rfl
  unfold ioL
  rw [← ofB_flip (ioG x i J) (2 ^ J - 1) hg 64 (pos_lt J hJ)]
  refine ofB_congr 64 fun p hp => ?_
  rw [ioG_succ x i J p h]
  by_cases e : p = 2 ^ J - 1
  · rw [if_pos e, if_pos e, e, hg]; rfl
  · rw [if_neg e, if_neg e]
theorem ioL_down (x i J : Nat) (hJ : J ≤ 6) (h : rcB (J + 7 * i) = true) (hb : x / 2 ^ (2 ^ J - 1) % 2 = 1) : ioL x i (J + 1) + 2 ^ (2 ^ J - 1) = ioL x i J := by
  have hg : ioG x i J (2 ^ J - 1) = true := by unfold ioG; rw [ioT_fresh, hb]; rfl
  have hg2 : ioG x i (J + 1) (2 ^ J - 1) = false := by rw [ioG_succ x i J _ h, if_pos rfl, hg]; rfl
  unfold ioL
  rw [← ofB_flip (ioG x i (J + 1)) (2 ^ J - 1) hg2 64 (pos_lt J hJ)]
  refine ofB_congr 64 fun p hp => ?_
  by_cases e : p = 2 ^ J - 1
  · rw [if_pos e, e, hg]
  · rw [if_neg e, ioG_succ x i J p h, if_neg e]
theorem ioL_lt (x i J : Nat) : ioL x i J < 18446744073709551616 := ofB_64 _ _ (Nat.le_refl _)
theorem ioP_zero (f : Nat → Nat) (i : Nat) (h0 : f 0 < 18446744073709551616) : stL f = stL (ioP f i 0) := stL_congr fun k hk => by
  unfold ioP
  by_cases e : k = 0
  · subst e; rw [if_pos rfl, ioL_zero _ _ h0]
  · rw [if_neg e]
theorem ioP_set (f : Nat → Nat) (i J : Nat) : (stL (ioP f i J)).set 0 ((ioL (f 0) i (J + 1) : Nat) : Int) = stL (ioP f i (J + 1)) := by
  rw [stL_set]
  refine stL_congr fun k hk => ?_
  unfold ioP
  by_cases e : k = 0 <;> simp [e]
theorem ioP_skip (f : Nat → Nat) (i J : Nat) (h : rcB (J + 7 * i) = false) : stL (ioP f i J) = stL (ioP f i (J + 1)) := stL_congr fun k hk => by
  unfold ioP
  rw [ioL_skip _ _ _ h]
theorem ioP_done (f : Nat → Nat) (i : Nat) : stL (ioP f i 7) = stL (ioF f i) := rfl

theorem thF_lt (f : Nat → Nat) (i : Nat) : thF f i < 18446744073709551616 := ofB_64 _ _ (Nat.le_refl _)
theorem chF_lt (f : Nat → Nat) (i : Nat) : chF f i < 18446744073709551616 := ofB_64 _ _ (Nat.le_refl _)
theorem rhF_lt (f : Nat → Nat) (hf : ∀ i, f i < 18446744073709551616) (i : Nat) : rhF f i < 18446744073709551616 := by
  unfold rhF
  split
  · exact hf 0
  · exact ofB_64 _ _ (Nat.le_refl _)
theorem piF_lt (f : Nat → Nat) (hf : ∀ i, f i < 18446744073709551616) (i : Nat) : piF f i < 18446744073709551616 := hf _
theorem ioF_lt (f : Nat → Nat) (hf : ∀ i, f i < 18446744073709551616) (j i : Nat) : ioF f j i < 18446744073709551616 := by
  unfold ioF
  split
  · exact ioL_lt _ _ _
  · exact hf i
/-- A round of a state. -/
def rdF (f : Nat → Nat) (i : Nat) : Nat → Nat := ioF (chF (piF (rhF (thF f)))) i
theorem rdF_lt (f : Nat → Nat) (j i : Nat) : rdF f j i < 18446744073709551616 := ioF_lt _ (chF_lt _) _ _
/-- The first n rounds. -/
def rdsF (f : Nat → Nat) : Nat → Nat → Nat
  | 0 => f
  | n + 1 => rdF (rdsF f n) n
theorem rdsF_lt (f : Nat → Nat) (hf : ∀ i, f i < 18446744073709551616) : ∀ n i, rdsF f n i < 18446744073709551616
  | 0, i => hf i
  | n + 1, i => rdF_lt _ _ _
end Go.Proofs.YtliiofjcghdjoaaDoor

/- Lane by lane what the document says bit by bit: sums, turned lanes, products of lanes, the constants: plain mathematics. No program's text is named. -/
namespace Go.Proofs.YtliiofjcghdjoaaDoor
set_option linter.unusedSimpArgs false
set_option linter.unusedVariables false

/-- Bit z of a number, as a number. -/
def bt (x z : Nat) : Nat := x / 2 ^ z % 2
theorem bt_lt (x z : Nat) : bt x z < 2 := Nat.mod_lt _ (by decide)
theorem bt_test (x z : Nat) : x.testBit z = decide (bt x z = 1) := Nat.testBit_eq_decide_div_mod_eq
theorem bt_of (x z : Nat) : bt x z = (x.testBit z).toNat := by
  rw [bt_test]
  have := bt_lt x z
  have h : bt x z = 0 ∨ bt x z = 1 := by omega
  rcases h with h | h <;> simp [h]
theorem bitN_bt (f : Nat → Nat) (x y z : Nat) : bitN f x y z = bt (f (x + 5 * y)) z := rfl
theorem bt_xor (x y z : Nat) : bt (x ^^^ y) z = (bt x z + bt y z) % 2 := by
  simp only [bt_of, Nat.testBit_xor]
  cases x.testBit z <;> cases y.testBit z <;> rfl
theorem bt_and (x y z : Nat) : bt (x &&& y) z = bt x z * bt y z := by
  simp only [bt_of, Nat.testBit_and]
  cases x.testBit z <;> cases y.testBit z <;> rfl
theorem ext64 {x y : Nat} (hx : x < 18446744073709551616) (hy : y < 18446744073709551616) (h : ∀ z, z < 64 → bt x z = bt y z) : x = y := lanes_ext hx hy h
theorem xor_lt64 {x y : Nat} (hx : x < 18446744073709551616) (hy : y < 18446744073709551616) : x ^^^ y < 18446744073709551616 := by
  have h64 : (2 : Nat) ^ 64 = 18446744073709551616 := by decide
  rw [← h64] at *
  exact Nat.xor_lt_two_pow hx hy

/-! ### A lane that is turned -/
def rotN (x n : Nat) : Nat := x * 2 ^ n % 18446744073709551616 + x / 2 ^ (64 - n)
theorem rotN_bit (x n z : Nat) (hx : x < 18446744073709551616) (hn : n < 64) (hn0 : 0 < n) (hz : z < 64) : bt (rotN x n) z = bt x ((z + 64 - n) % 64) := by
  have h64 : (18446744073709551616 : Nat) = 2 ^ n * 2 ^ (64 - n) := by rw [← Nat.pow_add, show n + (64 - n) = 64 by omega]
  have hB : x / 2 ^ (64 - n) < 2 ^ n := by
    refine Nat.div_lt_of_lt_mul ?_
    rw [Nat.mul_comm, ← h64]
    exact hx
  have e1 : rotN x n = 2 ^ n * (x % 2 ^ (64 - n)) + x / 2 ^ (64 - n) := by
    unfold rotN
    rw [h64, Nat.mul_comm x, Nat.mul_mod_mul_left]
  rw [e1]
  by_cases h : z < n
  · have hz2 : (z + 64 - n) % 64 = 64 - n + z := by omega
    rw [hz2]
    unfold bt
    obtain ⟨d, hd⟩ : ∃ d, n = z + (d + 1) := ⟨n - z - 1, by omega⟩
    have e2 : 2 ^ n * (x % 2 ^ (64 - n)) = 2 ^ z * (2 * (2 ^ d * (x % 2 ^ (64 - n)))) := by
      rw [hd, Nat.pow_add, Nat.pow_succ]
      ac_rfl
    rw [e2, Nat.add_comm, Nat.add_mul_div_left _ _ (Nat.pow_pos (by decide)), Nat.add_mul_mod_self_left, Nat.div_div_eq_div_mul, ← Nat.pow_add]
  · have hz2 : (z + 64 - n) % 64 = z - n := by omega
    rw [hz2]
    have e3 : (2 ^ n * (x % 2 ^ (64 - n)) + x / 2 ^ (64 - n)) / 2 ^ z = x % 2 ^ (64 - n) / 2 ^ (z - n) := by
      obtain ⟨d, hd⟩ : ∃ d, z = n + d := ⟨z - n, by omega⟩
      rw [hd, Nat.pow_add, ← Nat.div_div_eq_div_mul, Nat.mul_add_div (Nat.pow_pos (by decide)), Nat.div_eq_of_lt hB, Nat.add_zero, Nat.add_sub_cancel_left]
    have e4 : bt (x % 2 ^ (64 - n)) (z - n) = bt x (z - n) := by
      rw [bt_of, bt_of, Nat.testBit_mod_two_pow]
      simp [show z - n < 64 - n by omega]
    unfold bt at e4 ⊢
    rw [e3]
    exact e4
theorem rotN_lt (x n : Nat) (hx : x < 18446744073709551616) (hn : n < 64) : rotN x n < 18446744073709551616 := by
  have h64 : (18446744073709551616 : Nat) = 2 ^ n * 2 ^ (64 - n) := by rw [← Nat.pow_add, show n + (64 - n) = 64 by omega]
  have hB : x / 2 ^ (64 - n) < 2 ^ n := by
    refine Nat.div_lt_of_lt_mul ?_
    rw [Nat.mul_comm, ← h64]
    exact hx
  have e1 : rotN x n = 2 ^ n * (x % 2 ^ (64 - n)) + x / 2 ^ (64 - n) := by
    unfold rotN
    rw [h64, Nat.mul_comm x, Nat.mul_mod_mul_left]
  have h2 : x % 2 ^ (64 - n) + 1 ≤ 2 ^ (64 - n) := Nat.mod_lt _ (Nat.pow_pos (by decide))
  have h3 := Nat.mul_le_mul_left (2 ^ n) h2
  rw [← h64, Nat.mul_add] at h3
  omega
/-- Turned by n, 0 too. -/
def turnN (x n : Nat) : Nat := if n = 0 then x else rotN x n
theorem turnN_bit (x n z : Nat) (hx : x < 18446744073709551616) (hn : n < 64) (hz : z < 64) : bt (turnN x n) z = bt x ((z + 64 - n) % 64) := by
  unfold turnN
  split
  · rename_i h; subst h; rw [show (z + 64 - 0) % 64 = z by omega]
  · exact rotN_bit x n z hx hn (by omega) hz
theorem turnN_lt (x n : Nat) (hx : x < 18446744073709551616) (hn : n < 64) : turnN x n < 18446744073709551616 := by
  unfold turnN
  split
  · exact hx
  · exact rotN_lt x n hx hn

/-! ### Theta, lane by lane -/
def colN (f : Nat → Nat) (x : Nat) : Nat := f x ^^^ f (x + 5) ^^^ f (x + 10) ^^^ f (x + 15) ^^^ f (x + 20)
def thL (f : Nat → Nat) (k : Nat) : Nat := f k ^^^ colN f ((k % 5 + 4) % 5) ^^^ turnN (colN f ((k % 5 + 1) % 5)) 1
theorem colN_lt (f : Nat → Nat) (hf : ∀ i, f i < 18446744073709551616) (x : Nat) : colN f x < 18446744073709551616 :=
  xor_lt64 (xor_lt64 (xor_lt64 (xor_lt64 (hf _) (hf _)) (hf _)) (hf _)) (hf _)
theorem colN_bit (f : Nat → Nat) (x z : Nat) : bt (colN f x) z = (bitN f x 0 z + bitN f x 1 z + bitN f x 2 z + bitN f x 3 z + bitN f x 4 z) % 2 := by
  unfold colN
  simp only [bt_xor, bitN_bt]
  simp only [Nat.mul_zero, Nat.add_zero, Nat.mul_one, show 5 * 2 = 10 from rfl, show 5 * 3 = 15 from rfl, show 5 * 4 = 20 from rfl]
  omega
theorem thL_lt (f : Nat → Nat) (hf : ∀ i, f i < 18446744073709551616) (k : Nat) : thL f k < 18446744073709551616 :=
  xor_lt64 (xor_lt64 (hf _) (colN_lt f hf _)) (turnN_lt _ _ (colN_lt f hf _) (by decide))
theorem ofB_bt (g : Nat → Bool) (z : Nat) (hz : z < 64) : bt (ofB g 64) z = if g z then 1 else 0 := ofB_bit g 64 z hz
theorem if_odd (n : Nat) (b : Bool) (h : b = decide (n % 2 = 1)) : (if b then 1 else 0) = n % 2 := by
  subst h
  have := Nat.mod_two_eq_zero_or_one n
  rcases this with h | h <;> simp [h]
theorem thL_eq (f : Nat → Nat) (hf : ∀ i, f i < 18446744073709551616) (k : Nat) (hk : k < 25) : thL f k = thF f k := by
  refine ext64 (thL_lt f hf k) (thF_lt f k) fun z hz => ?_
  unfold thL thF
  rw [bt_xor, bt_xor, turnN_bit _ _ _ (colN_lt f hf _) (by decide) hz, colN_bit, colN_bit, ofB_bt _ _ hz, if_odd (thN f (k % 5) z 5 + bitN f (k % 5) (k / 5) z) (thB f (k % 5) (k / 5) z) rfl]
  simp only [thN]
  have e : k % 5 + 5 * (k / 5) = k := by omega
  rw [show bt (f k) z = bitN f (k % 5) (k / 5) z from by rw [bitN_bt, e]]
  rw [show (z + 64 - 1) % 64 = (z + 63) % 64 by omega]
  omega

/-! ### Rho, lane by lane -/
def rhL (f : Nat → Nat) (i : Nat) : Nat := if i = 0 then f 0 else turnN (f i) (rhBy (rhTau i))
theorem rhL_lt (f : Nat → Nat) (hf : ∀ i, f i < 18446744073709551616) (k : Nat) : rhL f k < 18446744073709551616 := by
  unfold rhL
  split
  · exact hf 0
  · exact turnN_lt _ _ (hf _) (rhBy_lt _)
theorem rhL_eq (f : Nat → Nat) (hf : ∀ i, f i < 18446744073709551616) (k : Nat) (hk : k < 25) : rhL f k = rhF f k := by
  unfold rhL rhF
  split
  · rfl
  · rename_i h0
    refine ext64 (turnN_lt _ _ (hf _) (rhBy_lt _)) (ofB_64 _ _ (Nat.le_refl _)) fun z hz => ?_
    obtain ⟨h1, h2⟩ := rhPos_tau k hk h0
    rw [turnN_bit _ _ _ (hf _) (rhBy_lt _) hz, ofB_bt _ _ hz]
    unfold rhG
    rw [bitN_bt, show (rhXY (rhTau k)).1 + 5 * (rhXY (rhTau k)).2 = k from h2]
    have hlt : (z + 64 - rhBy (rhTau k)) % 64 < 64 := Nat.mod_lt _ (by decide)
    have hb := bt_lt (f k) ((z + 64 - rhBy (rhTau k)) % 64)
    have hc : bt (f k) ((z + 64 - rhBy (rhTau k)) % 64) = 0 ∨ bt (f k) ((z + 64 - rhBy (rhTau k)) % 64) = 1 := by omega
    rcases hc with hc | hc <;> simp [hlt, hc]

/-! ### Chi, lane by lane -/
theorem sub_and (x y : Nat) : x - (x &&& y) = x ^^^ (x &&& y) := by
  have h : (x ^^^ (x &&& y)) + (x &&& y) = x := by
    have hle : x < 2 ^ (x + 1) := Nat.lt_of_lt_of_le Nat.lt_two_pow_self (Nat.pow_le_pow_right (by decide) (by omega))
    have ha : x &&& y < 2 ^ (x + 1) := Nat.lt_of_le_of_lt Nat.and_le_left hle
    have hx : x ^^^ (x &&& y) < 2 ^ (x + 1) := Nat.xor_lt_two_pow hle ha
    have e0 : BitVec.ofNat (x + 1) (x ^^^ (x &&& y)) &&& BitVec.ofNat (x + 1) (x &&& y) = 0#(x + 1) := by
      apply BitVec.eq_of_getLsbD_eq
      intro i hi
      simp only [BitVec.getLsbD_and, BitVec.getLsbD_ofNat, Nat.testBit_xor, Nat.testBit_and, BitVec.getLsbD_zero]
      cases x.testBit i <;> cases y.testBit i <;> simp
    have e1 := BitVec.add_eq_or_of_and_eq_zero _ _ e0
    have e2 := congrArg BitVec.toNat e1
    rw [BitVec.toNat_add, BitVec.toNat_or, BitVec.toNat_ofNat, BitVec.toNat_ofNat, Nat.mod_eq_of_lt hx, Nat.mod_eq_of_lt ha] at e2
    have e3 : (x ^^^ (x &&& y)) ||| (x &&& y) = x := by
      apply Nat.eq_of_testBit_eq
      intro i
      simp only [Nat.testBit_or, Nat.testBit_xor, Nat.testBit_and]
      cases x.testBit i <;> cases y.testBit i <;> rfl
    rw [e3] at e2
    have hx2 : (x ^^^ (x &&& y)) ≤ x := by
      have := Nat.mod_le ((x ^^^ (x &&& y)) + (x &&& y)) (2 ^ (x + 1))
      have h1 : (x ^^^ (x &&& y)) ||| (x &&& y) = x := e3
      have h2 : (x ^^^ (x &&& y)) ≤ (x ^^^ (x &&& y)) ||| (x &&& y) := Nat.left_le_or
      omega
    have hsum : (x ^^^ (x &&& y)) + (x &&& y) < 2 ^ (x + 1) := by
      have h1 : x &&& y ≤ x := Nat.and_le_left
      have h2 : 2 * x < 2 ^ (x + 1) := by rw [Nat.pow_succ]; have := @Nat.lt_two_pow_self x; omega
      omega
    rwa [Nat.mod_eq_of_lt hsum] at e2
  omega
def chL (f : Nat → Nat) (k : Nat) : Nat := f k ^^^ (f (k - k % 5 + (k % 5 + 2) % 5) - (f (k - k % 5 + (k % 5 + 2) % 5) &&& f (k - k % 5 + (k % 5 + 1) % 5)))
theorem chL_lt (f : Nat → Nat) (hf : ∀ i, f i < 18446744073709551616) (k : Nat) : chL f k < 18446744073709551616 :=
  xor_lt64 (hf _) (Nat.lt_of_le_of_lt (Nat.sub_le _ _) (hf _))
theorem chL_eq (f : Nat → Nat) (hf : ∀ i, f i < 18446744073709551616) (k : Nat) (hk : k < 25) : chL f k = chF f k := by
  refine ext64 (chL_lt f hf k) (chF_lt f k) fun z hz => ?_
  unfold chL chF
  rw [bt_xor, sub_and, bt_xor, bt_and, ofB_bt _ _ hz]
  unfold chB
  have e0 : k % 5 + 5 * (k / 5) = k := by omega
  have e1 : k - k % 5 + (k % 5 + 1) % 5 = (k % 5 + 1) % 5 + 5 * (k / 5) := by omega
  have e2 : k - k % 5 + (k % 5 + 2) % 5 = (k % 5 + 2) % 5 + 5 * (k / 5) := by omega
  rw [e1, e2, bitN_bt, bitN_bt, bitN_bt, e0]
  have h0 := bt_lt (f k) z
  have h1 := bt_lt (f ((k % 5 + 1) % 5 + 5 * (k / 5))) z
  have h2 := bt_lt (f ((k % 5 + 2) % 5 + 5 * (k / 5))) z
  generalize bt (f k) z = a at *
  generalize bt (f ((k % 5 + 1) % 5 + 5 * (k / 5))) z = b at *
  generalize bt (f ((k % 5 + 2) % 5 + 5 * (k / 5))) z = c at *
  have ha : a = 0 ∨ a = 1 := by omega
  have hb : b = 0 ∨ b = 1 := by omega
  have hc : c = 0 ∨ c = 1 := by omega
  rcases ha with rfl | rfl <;> rcases hb with rfl | rfl <;> rcases hc with rfl | rfl <;> decide
end Go.Proofs.YtliiofjcghdjoaaDoor

/- The constants of the rounds, and rounds lane by lane: plain mathematics. No program's text is named. -/
namespace Go.Proofs.YtliiofjcghdjoaaDoor
set_option linter.unusedSimpArgs false
set_option linter.unusedVariables false

/-- What is added in each round. -/
def kst : List Nat := [0x0000000000000001, 0x0000000000008082, 0x800000000000808a, 0x8000000080008000, 0x000000000000808b, 0x0000000080000001, 0x8000000080008081, 0x8000000000008009,
  0x000000000000008a, 0x0000000000000088, 0x0000000080008009, 0x000000008000000a, 0x000000008000808b, 0x800000000000008b, 0x8000000000008089, 0x8000000000008003,
  0x8000000000008002, 0x8000000000000080, 0x000000000000800a, 0x800000008000000a, 0x8000000080008081, 0x8000000000008080, 0x0000000080000001, 0x8000000080008008]
theorem kst_eq : ∀ i, i < 24 → ofB (ioT i 7) 64 = kst.getD i 0 := by decide +kernel
theorem kst_lt : ∀ i, i < 24 → kst.getD i 0 < 18446744073709551616 := by decide
theorem ioL_xor (x i : Nat) (hx : x < 18446744073709551616) (hi : i < 24) : ioL x i 7 = x ^^^ kst.getD i 0 := by
  rw [← kst_eq i hi]
  refine ext64 (ioL_lt _ _ _) (xor_lt64 hx (ofB_64 _ _ (Nat.le_refl _))) fun z hz => ?_
  unfold ioL
  rw [bt_xor, ofB_bt _ _ hz, ofB_bt _ _ hz]
  unfold ioG
  have hb := bt_lt x z
  have hc : bt x z = 0 ∨ bt x z = 1 := by omega
  rw [show x / 2 ^ z % 2 = bt x z from rfl]
  rcases hc with hc | hc <;> cases ioT i 7 z <;> simp [hc]

/-! ### Only the 25 lanes count -/
theorem bitN_congr {f g : Nat → Nat} (h : ∀ i, i < 25 → f i = g i) (x y z : Nat) (hx : x < 5) (hy : y < 5) : bitN f x y z = bitN g x y z := by
  unfold bitN
  rw [h _ (by omega)]
theorem thN_congr {f g : Nat → Nat} (h : ∀ i, i < 25 → f i = g i) (x z : Nat) : ∀ Y, Y ≤ 5 → thN f x z Y = thN g x z Y
  | 0, _ => rfl
  | Y + 1, hY => by
    unfold thN
    rw [thN_congr h x z Y (by omega), bitN_congr h _ Y z (by omega) (by omega), bitN_congr h _ Y _ (by omega) (by omega)]
theorem thF_congr {f g : Nat → Nat} (h : ∀ i, i < 25 → f i = g i) (k : Nat) (hk : k < 25) : thF f k = thF g k := by
  unfold thF
  refine ofB_congr 64 fun z hz => ?_
  unfold thB
  rw [thN_congr h _ z 5 (Nat.le_refl _), bitN_congr h _ _ z (by omega) (by omega)]
theorem rhF_congr {f g : Nat → Nat} (h : ∀ i, i < 25 → f i = g i) (k : Nat) (hk : k < 25) : rhF f k = rhF g k := by
  unfold rhF
  split
  · exact h 0 (by omega)
  · rename_i h0
    refine ofB_congr 64 fun z hz => ?_
    unfold rhG
    have hxy := rhXY_lt (rhTau k) (by have := (rhPos_tau k hk h0).1; omega)
    rw [bitN_congr h _ _ _ hxy.1 hxy.2]
theorem piF_congr {f g : Nat → Nat} (h : ∀ i, i < 25 → f i = g i) (k : Nat) (hk : k < 25) : piF f k = piF g k := h _ (by omega)
theorem chF_congr {f g : Nat → Nat} (h : ∀ i, i < 25 → f i = g i) (k : Nat) (hk : k < 25) : chF f k = chF g k := by
  unfold chF
  refine ofB_congr 64 fun z hz => ?_
  unfold chB
  rw [bitN_congr h _ _ z (by omega) (by omega), bitN_congr h ((k % 5 + 1) % 5) _ z (by omega) (by omega), bitN_congr h ((k % 5 + 2) % 5) _ z (by omega) (by omega)]
theorem ioF_congr {f g : Nat → Nat} (h : ∀ i, i < 25 → f i = g i) (i k : Nat) (hk : k < 25) : ioF f i k = ioF g i k := by
  unfold ioF
  split
  · rw [h 0 (by omega)]
  · exact h k hk
theorem rdF_congr {f g : Nat → Nat} (h : ∀ i, i < 25 → f i = g i) (i k : Nat) (hk : k < 25) : rdF f i k = rdF g i k :=
  ioF_congr (fun _ h4 => chF_congr (fun _ h3 => piF_congr (fun _ h2 => rhF_congr (fun _ h1 => thF_congr h _ h1) _ h2) _ h3) _ h4) i k hk
theorem rdsF_congr {f g : Nat → Nat} (h : ∀ i, i < 25 → f i = g i) : ∀ n k, k < 25 → rdsF f n k = rdsF g n k
  | 0, k, hk => h k hk
  | n + 1, k, hk => rdF_congr (rdsF_congr h n) n k hk

/-! ### A round, lane by lane -/
def ioK (f : Nat → Nat) (i k : Nat) : Nat := if k = 0 then f 0 ^^^ kst.getD i 0 else f k
def rdL (f : Nat → Nat) (i : Nat) : Nat → Nat := ioK (chL (piF (rhL (thL f)))) i
theorem rdL_eq (f : Nat → Nat) (hf : ∀ i, f i < 18446744073709551616) (i : Nat) (hi : i < 24) (k : Nat) (hk : k < 25) : rdL f i k = rdF f i k := by
  have h1 : ∀ j, j < 25 → thL f j = thF f j := fun j hj => thL_eq f hf j hj
  have h2 : ∀ j, j < 25 → rhL (thL f) j = rhF (thF f) j := fun j hj => (rhL_eq _ (thL_lt f hf) j hj).trans (rhF_congr h1 j hj)
  have h3 : ∀ j, j < 25 → piF (rhL (thL f)) j = piF (rhF (thF f)) j := fun j hj => piF_congr h2 j hj
  have h4 : ∀ j, j < 25 → chL (piF (rhL (thL f))) j = chF (piF (rhF (thF f))) j := fun j hj =>
    (chL_eq _ (piF_lt _ (rhL_lt _ (thL_lt f hf))) j hj).trans (chF_congr h3 j hj)
  unfold rdL rdF ioK ioF
  by_cases e : k = 0
  · rw [if_pos e, if_pos e, ioL_xor _ _ (chF_lt _ _) hi, h4 0 (by omega)]
  · rw [if_neg e, if_neg e, h4 k hk]
theorem rdL_lt (f : Nat → Nat) (hf : ∀ i, f i < 18446744073709551616) (i : Nat) (hi : i < 24) (k : Nat) : rdL f i k < 18446744073709551616 := by
  unfold rdL ioK
  have h := chL_lt _ (piF_lt _ (rhL_lt _ (thL_lt f hf)))
  split
  · exact xor_lt64 (h 0) (kst_lt i hi)
  · exact h k
/-- The first n rounds, lane by lane. -/
def rdsL (f : Nat → Nat) : Nat → Nat → Nat
  | 0 => f
  | n + 1 => rdL (rdsL f n) n
theorem rdsL_lt (f : Nat → Nat) (hf : ∀ i, f i < 18446744073709551616) : ∀ n, n ≤ 24 → ∀ k, rdsL f n k < 18446744073709551616
  | 0, _, k => hf k
  | n + 1, hn, k => rdL_lt _ (rdsL_lt f hf n (by omega)) n (by omega) k
theorem rdsL_eq (f : Nat → Nat) (hf : ∀ i, f i < 18446744073709551616) : ∀ n, n ≤ 24 → ∀ k, k < 25 → rdsL f n k = rdsF f n k
  | 0, _, _, _ => rfl
  | n + 1, hn, k, hk => (rdL_eq _ (rdsL_lt f hf n (by omega)) n (by omega) k hk).trans (rdF_congr (rdsL_eq f hf n (by omega)) n k hk)
theorem rdsL_st (f : Nat → Nat) (hf : ∀ i, f i < 18446744073709551616) : stL (rdsL f 24) = stL (rdsF f 24) := stL_congr fun k hk => rdsL_eq f hf 24 (Nat.le_refl _) k hk
end Go.Proofs.YtliiofjcghdjoaaDoor

/- A state's bytes, bytes' state, bytes that are padded and taken in, and what comes out without end: plain mathematics. No program's text is named. -/
namespace Go.Proofs.YtliiofjcghdjoaaDoor
set_option linter.unusedSimpArgs false
set_option linter.unusedVariables false

/-! ### A state's bytes -/
def byF (f : Nat → Nat) (k : Nat) : UInt8 := stB (f (k / 8)) (k % 8)
def bsP (f : Nat → Nat) (n : Nat) : List UInt8 := (List.range n).map (byF f)
theorem bsP_length (f : Nat → Nat) (n : Nat) : (bsP f n).length = n := by simp [bsP]
theorem bsP_next (f : Nat → Nat) (i : Nat) : bsP f (8 * i) ++ (List.range 8).map (stB (f i)) = bsP f (8 * (i + 1)) := by
  unfold bsP
  rw [show 8 * (i + 1) = 8 * i + 8 by omega, List.range_add, List.map_append, List.map_map]
  congr 1
  refine List.map_congr_left fun t ht => ?_
  have := List.mem_range.1 ht
  simp only [Function.comp, byF]
  rw [show (8 * i + t) / 8 = i by omega, show (8 * i + t) % 8 = t by omega]
theorem bsP_get (f : Nat → Nat) (n k : Nat) (hk : k < n) : (bsP f n).getD k 0 = byF f k := by simp [bsP, hk]

/-! ### Bytes' state -/
def stF (l : List UInt8) (i : Nat) : Nat := leN ((l.drop (8 * i)).take 8)
theorem stF_lt (l : List UInt8) (i : Nat) : stF l i < 18446744073709551616 := by
  unfold stF
  exact leN_take_lt _ 8 (Nat.le_refl _)
def stP (l : List UInt8) (n : Nat) : List Int := (List.range n).map fun i => ((stF l i : Nat) : Int)
theorem stP_next (l : List UInt8) (n : Nat) : stP l n ++ [((stF l n : Nat) : Int)] = stP l (n + 1) := by
  unfold stP
  rw [List.range_succ, List.map_append]
  rfl
theorem stP_length (l : List UInt8) (n : Nat) : (stP l n).length = n := by simp [stP]
theorem stP_done (l : List UInt8) : stP l 25 = stL (stF l) := rfl

/-! ### One byte laid over another, as far as that has come -/
def xhP (s p : List UInt8) (i K : Nat) : List UInt8 := (List.range 200).map fun k => if k < K then s.getD k 0 ^^^ p.getD (i + k) 0 else s.getD k 0
theorem xhP_length (s p : List UInt8) (i K : Nat) : (xhP s p i K).length = 200 := by simp [xhP]
theorem xhP_zero (s p : List UInt8) (i : Nat) (hs : s.length = 200) : s = xhP s p i 0 := by
  refine List.ext_getElem (by simp [xhP, hs]) fun k h1 h2 => ?_
  simp [xhP, h1]
theorem xhP_get (s p : List UInt8) (i K : Nat) (hK : K < 200) : (xhP s p i K).getD K 0 = s.getD K 0 := by simp [xhP, hK]
theorem xhP_set (s p : List UInt8) (i K : Nat) : (xhP s p i K).set K (s.getD K 0 ^^^ p.getD (i + K) 0) = xhP s p i (K + 1) := by
  refine List.ext_getElem (by simp [xhP]) fun k h1 h2 => ?_
  simp only [xhP, List.getElem_set, List.getElem_map, List.getElem_range]
  by_cases e : K = k
  · subst e; simp
  · have : (k < K + 1) ↔ k < K := by omega
    simp [e, this]

/-! ### Padded bytes -/
/-- How many noughts stand behind the suffix. -/
def zN (r n : Nat) : Nat := (r - (n + 1) % r) % r
theorem zN_full (r n : Nat) (hr : 0 < r) : (n + 1 + zN r n) % r = 0 := by
  unfold zN
  have h1 : (n + 1) % r < r := Nat.mod_lt _ hr
  by_cases h : (n + 1) % r = 0
  · rw [h, Nat.sub_zero, Nat.mod_self, Nat.add_zero, h]
  · rw [Nat.mod_eq_of_lt (by omega : r - (n + 1) % r < r)]
    have h2 := Nat.div_add_mod (n + 1) r
    have h3 : n + 1 + (r - (n + 1) % r) = r * ((n + 1) / r + 1) := by rw [Nat.mul_add, Nat.mul_one]; omega
    rw [h3, Nat.mul_mod_right]
theorem zN_least (r n z : Nat) (hr : 0 < r) (hz : z < zN r n) : (n + 1 + z) % r ≠ 0 := by
  unfold zN at hz
  have h1 : (n + 1) % r < r := Nat.mod_lt _ hr
  by_cases h : (n + 1) % r = 0
  · rw [h, Nat.sub_zero, Nat.mod_self] at hz
    omega
  · rw [Nat.mod_eq_of_lt (by omega : r - (n + 1) % r < r)] at hz
    have h2 := Nat.div_add_mod (n + 1) r
    have h3 : n + 1 + z = r * ((n + 1) / r) + ((n + 1) % r + z) := by omega
    rw [h3, Nat.mul_add_mod, Nat.mod_eq_of_lt (by omega)]
    omega
theorem zN_lt (r n : Nat) (hr : 0 < r) : zN r n < r := Nat.mod_lt _ hr
/-- Padded, but for the last byte's highest bit. -/
def pdP (s : UInt8) (l : List UInt8) (z : Nat) : List UInt8 := l ++ [s] ++ List.replicate z 0
theorem pdP_length (s : UInt8) (l : List UInt8) (z : Nat) : (pdP s l z).length = l.length + 1 + z := by simp [pdP]; omega
theorem pdP_next (s : UInt8) (l : List UInt8) (z : Nat) : pdP s l z ++ [0] = pdP s l (z + 1) := by
  unfold pdP
  rw [List.append_assoc, List.replicate_succ']
def padL (r : Nat) (s : UInt8) (l : List UInt8) : List UInt8 := (pdP s l (zN r l.length)).set (l.length + zN r l.length) ((pdP s l (zN r l.length)).getD (l.length + zN r l.length) 0 ^^^ 128)
theorem padL_length (r : Nat) (s : UInt8) (l : List UInt8) : (padL r s l).length = l.length + 1 + zN r l.length := by simp [padL, pdP_length]
/-- How many blocks. -/
def blN (r : Nat) (l : List UInt8) : Nat := (l.length + 1 + zN r l.length) / r
theorem blN_mul (r : Nat) (l : List UInt8) (hr : 0 < r) : blN r l * r = l.length + 1 + zN r l.length := by
  unfold blN
  exact Nat.div_mul_cancel (Nat.dvd_of_mod_eq_zero (zN_full r _ hr))

/-! ### Taken in -/
def abN (r : Nat) (p : List UInt8) : Nat → Nat → Nat
  | 0 => fun _ => 0
  | b + 1 => rdsF (stF (xhP (bsP (abN r p b) 200) p (b * r) r)) 24
def abF (r : Int) (s : UInt8) (l : List UInt8) : Nat → Nat := if 1 ≤ r ∧ r ≤ 200 then abN r.toNat (padL r.toNat s l) (blN r.toNat l) else fun _ => 0

/-! ### What comes out -/
def itF (f : Nat → Nat) : Nat → Nat → Nat
  | 0 => f
  | t + 1 => rdsF (itF f t) 24
def smF (f : Nat → Nat) (r k : Nat) : UInt8 := byF (itF f (k / r)) (k % r)
def otL (f : Nat → Nat) (r n : Nat) : List UInt8 := (List.range n).map (smF f r)
theorem otL_length (f : Nat → Nat) (r n : Nat) : (otL f r n).length = n := by simp [otL]
theorem otL_take (f : Nat → Nat) (r n m : Nat) (h : n ≤ m) : (otL f r m).take n = otL f r n := by
  unfold otL
  rw [← List.map_take, List.take_range, Nat.min_eq_left h]
theorem bsP_take (f : Nat → Nat) (n m : Nat) (h : n ≤ m) : (bsP f m).take n = bsP f n := by
  unfold bsP
  rw [← List.map_take, List.take_range, Nat.min_eq_left h]
theorem otL_next (f : Nat → Nat) (r m : Nat) (hr : 0 < r) : otL f r (m * r) ++ bsP (itF f m) r = otL f r ((m + 1) * r) := by
  unfold otL bsP
  rw [Nat.add_mul, Nat.one_mul, List.range_add, List.map_append, List.map_map]
  congr 1
  refine List.map_congr_left fun t ht => ?_
  have h := List.mem_range.1 ht
  simp only [Function.comp, smF]
  rw [Nat.mul_comm m r, Nat.mul_add_div hr, Nat.mul_add_mod, Nat.div_eq_of_lt h, Nat.mod_eq_of_lt h, Nat.add_zero]
/-! ### Lanes have 64 bits -/
theorem itF_lt (f : Nat → Nat) (hf : ∀ i, f i < 18446744073709551616) : ∀ t k, itF f t k < 18446744073709551616
  | 0, k => hf k
  | t + 1, k => rdsF_lt _ (itF_lt f hf t) 24 k
theorem abN_lt (r : Nat) (p : List UInt8) : ∀ b k, abN r p b k < 18446744073709551616
  | 0, _ => by simp [abN]
  | b + 1, k => rdsF_lt _ (stF_lt _) 24 k
theorem abF_lt (R : Int) (s : UInt8) (l : List UInt8) (k : Nat) : abF R s l k < 18446744073709551616 := by
  unfold abF
  split
  · exact abN_lt _ _ _ k
  · show 0 < _
    decide
end Go.Proofs.YtliiofjcghdjoaaDoor

/- Bytes taken in block by block and lane by lane: plain mathematics. No program's text is named. -/
namespace Go.Proofs.YtliiofjcghdjoaaDoor
set_option linter.unusedSimpArgs false
set_option linter.unusedVariables false

/-! ### Laid over one another, lane by lane -/
theorem leN_xor : ∀ (a b : List UInt8), a.length = b.length → leN (List.zipWith (· ^^^ ·) a b) = leN a ^^^ leN b
  | [], [], _ => rfl
  | x :: a, y :: b, h => by
    have ih := leN_xor a b (by simpa using h)
    have e : ∀ (u : UInt8) (n : Nat), u.toNat + 256 * n = 2 ^ 8 * n ||| u.toNat := fun u n => by
      rw [← Nat.two_pow_add_eq_or_of_lt (show u.toNat < 2 ^ 8 from u.toNat_lt)]
      omega
    show (x ^^^ y).toNat + 256 * leN (List.zipWith (· ^^^ ·) a b) = (x.toNat + 256 * leN a) ^^^ (y.toNat + 256 * leN b)
    rw [ih, e, e, e]
    apply Nat.eq_of_testBit_eq
    intro i
    simp only [Nat.testBit_or, Nat.testBit_xor, Nat.testBit_two_pow_mul, UInt8.toNat_xor]
    by_cases hi : 8 ≤ i
    · have h8 : ∀ u : UInt8, u.toNat.testBit i = false := fun u => Nat.testBit_lt_two_pow (Nat.lt_of_lt_of_le u.toNat_lt (Nat.pow_le_pow_right (by decide) hi))
      simp [hi, h8]
    · simp [hi]
  | [], _ :: _, h => by simp at h
  | _ :: _, [], h => by simp at h
theorem leN_cons (x : UInt8) (l : List UInt8) : leN (x :: l) = x.toNat + 256 * leN l := rfl
/-- Lane j of the first r bytes of a block. -/
def xbl (blk : Nat → UInt8) (r j : Nat) : Nat := leN ((List.range 8).map fun t => if 8 * j + t < r then blk (8 * j + t) else 0)
theorem xbl_lt (blk : Nat → UInt8) (r j : Nat) : xbl blk r j < 18446744073709551616 := by
  have h := leN_lt ((List.range 8).map fun t => if 8 * j + t < r then blk (8 * j + t) else 0)
  have e : (256 : Nat) ^ ((List.range 8).map fun t => if 8 * j + t < r then blk (8 * j + t) else 0).length = 18446744073709551616 := by
    rw [List.length_map, List.length_range]
  rw [e] at h
  exact h
theorem xbl_congr {b1 b2 : Nat → UInt8} (r j : Nat) (h : ∀ k, k < r → b1 k = b2 k) : xbl b1 r j = xbl b2 r j := by
  unfold xbl
  congr 1
  refine List.map_congr_left fun t _ => ?_
  by_cases e : 8 * j + t < r
  · rw [if_pos e, if_pos e, h _ e]
  · rw [if_neg e, if_neg e]
theorem stF_xor (f : Nat → Nat) (hf : ∀ i, f i < 18446744073709551616) (p : List UInt8) (i r j : Nat) (hj : j < 25) :
    stF (xhP (bsP f 200) p i r) j = f j ^^^ xbl (fun k => p.getD (i + k) 0) r j := by
  have e1 : ((xhP (bsP f 200) p i r).drop (8 * j)).take 8 = List.zipWith (· ^^^ ·) ((List.range 8).map (stB (f j))) ((List.range 8).map fun t => if 8 * j + t < r then p.getD (i + (8 * j + t)) 0 else 0) := by
    refine List.ext_getElem (by simp [xhP_length]; omega) fun t h1 h2 => ?_
    have ht : t < 8 := by simp at h1; omega
    have hk : 8 * j + t < 200 := by omega
    have e2 : byF f (8 * j + t) = stB (f j) t := by
      unfold byF
      rw [show (8 * j + t) / 8 = j by omega, show (8 * j + t) % 8 = t by omega]
    simp only [List.getElem_take, List.getElem_drop, xhP, List.getElem_map, List.getElem_range, List.getElem_zipWith]
    rw [bsP_get f 200 _ hk, e2]
    split
    · rfl
    · simp
  unfold stF
  have h8 : f j < 256 ^ 8 := hf j
  rw [e1, leN_xor _ _ (by simp), leN_stB, Nat.mod_eq_of_lt h8]
  rfl

/-! ### The blocks of padded bytes -/
/-- Byte k of the last block. -/
def lasB (r : Nat) (s : UInt8) (l : List UInt8) (k : Nat) : UInt8 :=
  (if k < l.length % r then l.getD (l.length / r * r + k) 0 else if k = l.length % r then s else 0) ^^^ (if k = r - 1 then 128 else 0)
theorem zN_eq (r n : Nat) (hr : 0 < r) : zN r n = r - 1 - n % r := by
  unfold zN
  have h1 : n % r < r := Nat.mod_lt _ hr
  have h2 := Nat.div_add_mod n r
  have h3 : n + 1 = r * (n / r) + (n % r + 1) := by omega
  rw [h3, Nat.mul_add_mod]
  by_cases h : n % r + 1 = r
  · rw [h, Nat.mod_self, Nat.sub_zero, Nat.mod_self]
    omega
  · rw [Nat.mod_eq_of_lt (by omega : n % r + 1 < r), Nat.mod_eq_of_lt (by omega)]
    omega
theorem blN_eq (r : Nat) (l : List UInt8) (hr : 0 < r) : blN r l = l.length / r + 1 := by
  unfold blN
  rw [zN_eq r _ hr]
  have h1 : l.length % r < r := Nat.mod_lt _ hr
  have h2 := Nat.div_add_mod l.length r
  have h3 : l.length + 1 + (r - 1 - l.length % r) = r * (l.length / r + 1) := by rw [Nat.mul_add, Nat.mul_one]; omega
  rw [h3, Nat.mul_div_cancel_left _ hr]
theorem pdP_get (s : UInt8) (l : List UInt8) (z k : Nat) : (pdP s l z).getD k 0 = if k < l.length then l.getD k 0 else if k = l.length then s else 0 := by
  unfold pdP
  by_cases h : k < l.length
  · rw [if_pos h]
    simp [List.getElem?_append, h, show k < l.length + 1 by omega]
  · rw [if_neg h]
    by_cases h2 : k = l.length
    · subst h2
      simp [List.getElem?_append]
    · rw [if_neg h2]
      have h3 : ¬ k < l.length + 1 := by omega
      obtain ⟨d, hd⟩ : ∃ d, k - l.length = d + 1 := ⟨k - l.length - 1, by omega⟩
      by_cases h4 : d < z
      · simp [List.getElem?_append, h, hd, List.getElem?_replicate, h4]
      · simp [List.getElem?_append, h, hd, List.getElem?_replicate, h4]
theorem padL_get (r : Nat) (s : UInt8) (l : List UInt8) (k : Nat) (hk : k < l.length + 1 + zN r l.length) :
    (padL r s l).getD k 0 = (if k < l.length then l.getD k 0 else if k = l.length then s else 0) ^^^ (if k = l.length + zN r l.length then 128 else 0) := by
  unfold padL
  rw [← pdP_get s l (zN r l.length)]
  have hlen := pdP_length s l (zN r l.length)
  by_cases e : k = l.length + zN r l.length
  · rw [if_pos e, ← e]
    have h1 : k < (pdP s l (zN r l.length)).length := by omega
    simp [List.getElem?_set, h1]
  · rw [if_neg e]
    simp [List.getElem?_set, Ne.symm e]
theorem pad_full (r : Nat) (s : UInt8) (l : List UInt8) (hr : 0 < r) (b k : Nat) (hb : b < l.length / r) (hk : k < r) : (padL r s l).getD (b * r + k) 0 = l.getD (b * r + k) 0 := by
  have h1 : (b + 1) * r ≤ l.length / r * r := Nat.mul_le_mul_right r hb
  have h2 := Nat.div_mul_le_self l.length r
  rw [Nat.add_mul, Nat.one_mul] at h1
  rw [padL_get r s l _ (by omega), if_pos (by omega), if_neg (by omega)]
  simp
theorem pad_last (r : Nat) (s : UInt8) (l : List UInt8) (hr : 0 < r) (k : Nat) (hk : k < r) : (padL r s l).getD (l.length / r * r + k) 0 = lasB r s l k := by
  have h0 := Nat.div_add_mod l.length r
  rw [Nat.mul_comm] at h0
  have h1 : l.length % r < r := Nat.mod_lt _ hr
  have hz := zN_eq r l.length hr
  rw [padL_get r s l _ (by omega)]
  unfold lasB
  have c1 : (l.length / r * r + k < l.length) ↔ k < l.length % r := by omega
  have c2 : (l.length / r * r + k = l.length) ↔ k = l.length % r := by omega
  have c3 : (l.length / r * r + k = l.length + zN r l.length) ↔ k = r - 1 := by omega
  simp only [c1, c2, c3]
/-- One block taken in. -/
def tkF (f : Nat → Nat) (blk : Nat → UInt8) (r : Nat) : Nat → Nat := rdsF (fun j => f j ^^^ xbl blk r j) 24
theorem abN_tk (r : Nat) (p : List UInt8) (b : Nat) (k : Nat) (hk : k < 25) : abN r p (b + 1) k = tkF (abN r p b) (fun t => p.getD (b * r + t) 0) r k := by
  show rdsF (stF (xhP (bsP (abN r p b) 200) p (b * r) r)) 24 k = _
  have hlt : ∀ b k, abN r p b k < 18446744073709551616 := by
    intro b
    cases b with
    | zero => intro k; simp [abN]
    | succ b => intro k; exact rdsF_lt _ (stF_lt _) 24 k
  exact rdsF_congr (fun j hj => stF_xor _ (hlt b) p (b * r) r j hj) 24 k hk
theorem tkF_congr {f g : Nat → Nat} {b1 b2 : Nat → UInt8} (r : Nat) (h : ∀ j, j < 25 → f j = g j) (hb : ∀ k, k < r → b1 k = b2 k) (k : Nat) (hk : k < 25) : tkF f b1 r k = tkF g b2 r k :=
  rdsF_congr (fun j hj => by rw [h j hj, xbl_congr r j hb]) 24 k hk
/-- The whole blocks of the bytes themselves, taken in. -/
def fuN (r : Nat) (l : List UInt8) : Nat → Nat → Nat
  | 0 => fun _ => 0
  | b + 1 => tkF (fuN r l b) (fun t => l.getD (b * r + t) 0) r
theorem fuN_eq (r : Nat) (s : UInt8) (l : List UInt8) (hr : 0 < r) : ∀ b, b ≤ l.length / r → ∀ k, k < 25 → abN r (padL r s l) b k = fuN r l b k
  | 0, _, _, _ => rfl
  | b + 1, hb, k, hk => (abN_tk r _ b k hk).trans (tkF_congr r (fuN_eq r s l hr b (by omega)) (fun t ht => pad_full r s l hr b t (by omega) ht) k hk)
/-- All blocks: the whole ones, then the last. -/
theorem abs_eq (r : Nat) (s : UInt8) (l : List UInt8) (hr : 0 < r) (k : Nat) (hk : k < 25) : abN r (padL r s l) (blN r l) k = tkF (fuN r l (l.length / r)) (lasB r s l) r k := by
  rw [blN_eq r l hr]
  exact (abN_tk r _ _ k hk).trans (tkF_congr r (fuN_eq r s l hr _ (Nat.le_refl _)) (fun t ht => pad_last r s l hr t ht) k hk)
theorem fuN_lt (r : Nat) (l : List UInt8) : ∀ b k, fuN r l b k < 18446744073709551616
  | 0, _ => by simp [fuN]
  | b + 1, k => rdsF_lt _ (fun j => xor_lt64 (fuN_lt r l b j) (xbl_lt _ _ _)) 24 k

/-! ### Read in pieces -/
theorem otL_split (f : Nat → Nat) (r a b : Nat) : otL f r (a + b) = otL f r a ++ (List.range b).map (fun k => smF f r (a + k)) := by
  unfold otL
  rw [List.range_add, List.map_append, List.map_map]
  rfl
end Go.Proofs.YtliiofjcghdjoaaDoor

/- The code of a key and bytes, and the keys that follow from a chaining key: plain mathematics. No program's text is named. -/
namespace Go.Proofs.YtliiofjcghdjoaaDoor
set_option linter.unusedSimpArgs false
set_option linter.unusedVariables false

/-- The sum of 32 bytes. -/
def s2L (l : List UInt8) : List UInt8 := otL (abF 136 6 l) 136 32
theorem s2L_length (l : List UInt8) : (s2L l).length = 32 := otL_length _ _ _
/-- A key as it counts, without noughts behind it, and with them. -/
def kyS (k : List UInt8) : List UInt8 := if 136 < k.length then s2L k else k
theorem kyS_length (k : List UInt8) : (kyS k).length ≤ 136 := by
  unfold kyS
  split
  · rw [s2L_length]; decide
  · omega
def kyL (k : List UInt8) : List UInt8 := kyS k ++ List.replicate (136 - (kyS k).length) 0
theorem kyL_length (k : List UInt8) : (kyL k).length = 136 := by
  have := kyS_length k
  simp [kyL]
  omega
def mxP (K : List UInt8) (c : UInt8) (j : Nat) : List UInt8 := (List.range j).map fun t => K.getD t 0 ^^^ c
theorem mxP_next (K : List UInt8) (c : UInt8) (j : Nat) : mxP K c j ++ [K.getD j 0 ^^^ c] = mxP K c (j + 1) := by
  unfold mxP
  rw [List.range_succ, List.map_append]
  rfl
theorem mxP_length (K : List UInt8) (c : UInt8) (j : Nat) : (mxP K c j).length = j := by simp [mxP]
/-- The code. -/
def mcF (k b : List UInt8) : List UInt8 := s2L (mxP (kyL k) 92 136 ++ s2L (mxP (kyL k) 54 136 ++ b))
theorem mcF_length (k b : List UInt8) : (mcF k b).length = 32 := s2L_length _
theorem mxP_get (K : List UInt8) (c : UInt8) (j t : Nat) (h : t < j) : (mxP K c j).getD t 0 = K.getD t 0 ^^^ c := by simp [mxP, h]
/-- The three keys. -/
def k1F (ck b : List UInt8) : List UInt8 := mcF (mcF ck b) [1]
def k2F (ck b : List UInt8) : List UInt8 := mcF (mcF ck b) (k1F ck b ++ [2])
def k3F (ck b : List UInt8) : List UInt8 := mcF (mcF ck b) (k2F ck b ++ [3])
/-- Noughts behind a key change nothing. -/
theorem kyL_noughts (k : List UInt8) (n : Nat) (h : k.length + n ≤ 136) : kyL (k ++ List.replicate n 0) = kyL k := by
  have e1 : kyS (k ++ List.replicate n 0) = k ++ List.replicate n 0 := by
    unfold kyS
    rw [if_neg (by simp; omega)]
  have e2 : kyS k = k := by
    unfold kyS
    rw [if_neg (by omega)]
  unfold kyL
  rw [e1, e2, List.append_assoc, List.replicate_append_replicate]
  congr 2
  simp
  omega
theorem mcF_noughts (k b : List UInt8) (n : Nat) (h : k.length + n ≤ 136) : mcF (k ++ List.replicate n 0) b = mcF k b := by
  unfold mcF
  rw [kyL_noughts k n h]
/-- A longer key counts as its sum. -/
theorem mcF_long (k b : List UInt8) (h : 136 < k.length) : mcF k b = mcF (s2L k) b := by
  have e : kyL k = kyL (s2L k) := by
    have e1 : kyS k = s2L k := by unfold kyS; rw [if_pos h]
    have e2 : kyS (s2L k) = s2L k := by unfold kyS; rw [if_neg (by rw [s2L_length]; omega)]
    unfold kyL
    rw [e1, e2]
  unfold mcF
  rw [e]
end Go.Proofs.YtliiofjcghdjoaaDoor

/- Ciphers and states that are mixed, as the document has them: plain mathematics. No program's text is named. -/
namespace Go.Proofs.YtliiofjcghdjoaaDoor
set_option linter.unusedSimpArgs false
set_option linter.unusedVariables false

/-- A cipher: a key, a number. -/
structure Cph where
  key : List UInt8
  n : Nat
/-- A state: a chaining key, a sum, a cipher. -/
structure Sta where
  ck : List UInt8
  h : List UInt8
  c : Cph
/-- The nonce of a number. -/
def ncL (n : Nat) : List UInt8 := List.replicate 4 0 ++ st8 n
theorem ncL_length (n : Nat) : (ncL n).length = 12 := by
  unfold ncL
  rw [List.length_append, List.length_replicate, st8_length]
/-- What is opened, where the tag is right. -/
def opQ (k n a s : List UInt8) : List UInt8 × Int :=
  if s.length < 16 then ([], 13) else if tgL k n a (s.take (s.length - 16)) = s.drop (s.length - 16) then (smL k 1 n (s.take (s.length - 16)), 0) else ([], 10)
/-- Sealed: the cipher then, what is told, an error. -/
def seC (c : Cph) (ad t : List UInt8) : Cph × List UInt8 × Int :=
  if c.key.length = 0 then (c, t, 0) else if c.key.length ≠ 32 then (c, [], 1) else if c.n = 18446744073709551615 then (c, [], 31) else (⟨c.key, c.n + 1⟩, seL c.key (ncL c.n) ad t, 0)
def opC (c : Cph) (ad s : List UInt8) : Cph × List UInt8 × Int :=
  if c.key.length = 0 then (c, s, 0) else if c.key.length ≠ 32 then (c, [], 1) else if c.n = 18446744073709551615 then (c, [], 31)
  else if (opQ c.key (ncL c.n) ad s).2 = 0 then (⟨c.key, c.n + 1⟩, (opQ c.key (ncL c.n) ad s).1, 0) else (c, [], (opQ c.key (ncL c.n) ad s).2)
def rkC (c : Cph) : Cph := if c.key.length = 32 then ⟨(seL c.key (ncL 18446744073709551615) [] (List.replicate 32 0)).take 32, c.n⟩ else c
/-- A state of a name. -/
def nwH (s : List UInt8) : List UInt8 := if 32 < s.length then s2L s else s ++ List.replicate (32 - s.length) 0
def nwS (s : List UInt8) : Sta := ⟨nwH s, nwH s, ⟨[], 0⟩⟩
def mhS (s : Sta) (b : List UInt8) : Sta := ⟨s.ck, s2L (s.h ++ b), s.c⟩
def mkS (s : Sta) (i : List UInt8) : Sta := ⟨k1F s.ck i, s.h, ⟨k2F s.ck i, 0⟩⟩
def mbS (s : Sta) (i : List UInt8) : Sta := ⟨k1F s.ck i, s2L (s.h ++ k2F s.ck i), ⟨k3F s.ck i, 0⟩⟩
def seS (s : Sta) (t : List UInt8) : Sta × List UInt8 × Int := if (seC s.c s.h t).2.2 = 0 then (⟨s.ck, s2L (s.h ++ (seC s.c s.h t).2.1), (seC s.c s.h t).1⟩, (seC s.c s.h t).2.1, 0) else (s, [], (seC s.c s.h t).2.2)
def opS (s : Sta) (b : List UInt8) : Sta × List UInt8 × Int := if (opC s.c s.h b).2.2 = 0 then (⟨s.ck, s2L (s.h ++ b), (opC s.c s.h b).1⟩, (opC s.c s.h b).2.1, 0) else (s, [], (opC s.c s.h b).2.2)
def spS (s : Sta) : Cph × Cph := (⟨k1F s.ck [], 0⟩, ⟨k2F s.ck [], 0⟩)
end Go.Proofs.YtliiofjcghdjoaaDoor

/- Sessions as the document has them: plain mathematics. No program's text is named. -/
namespace Go.Proofs.YtliiofjcghdjoaaDoor
open Go.ChangeShapes Go.WideShapes Go.ChangeAt Go.RowKit
set_option linter.unusedSimpArgs false
set_option linter.unusedVariables false

/-- A session: its two ciphers, when it began, how many were sealed, which numbers came. -/
structure Ses where
  snd : Cph
  rcv : Cph
  born : Nat
  sent : Nat
  came : List Nat
structure SesW (s : Ses) : Prop where
  sn : s.snd.n < 18446744073709551616
  rn : s.rcv.n < 18446744073709551616
  born : s.born < 18446744073709551616
  sent : s.sent < 18446744073709551616
  came : ∀ x ∈ s.came, x < 18446744073709551616
def ssC (s : Ses) (v1 v2 v3 : Value) : List Value := [v1, .int .u64 (s.snd.n : Int), v2, .int .u64 (s.rcv.n : Int), .int .u64 (s.born : Int), .int .u64 (s.sent : Int), v3]
structure SsR (w : World) (s : Ses) (v1 v2 v3 : Value) : Prop where
  snd : Rd w v1 s.snd.key
  rcv : Rd w v2 s.rcv.key
  came : RdI .u64 w v3 (nU s.came)
theorem SsR.kept {w w' : World} {s : Ses} {v1 v2 v3 : Value} (h : SsR w s v1 v2 v3) (hb : Below w.heap.size w w') : SsR w' s v1 v2 v3 := ⟨h.snd.kept hb, h.rcv.kept hb, h.came.kept hb⟩
def rkB (r : Rl) (s : Ses) (now : Nat) : Bool := decide (r.rekey ≤ snN s.born now) || decide (r.rcount ≤ s.sent)
def exB (r : Rl) (s : Ses) (now : Nat) : Bool := decide (r.expire ≤ snN s.born now) || decide (r.ecount ≤ s.sent)
/-- What sealing a text makes of it. -/
def ssS (r : Rl) (s : Ses) (t : List UInt8) (now : Nat) : Ses × Nat × List UInt8 × Int :=
  if exB r s now = true then (s, 0, [], 52) else if (seC s.snd [] t).2.2 ≠ 0 then (s, 0, [], (seC s.snd [] t).2.2) else (⟨(seC s.snd [] t).1, s.rcv, s.born, s.sent + 1, s.came⟩, s.snd.n, (seC s.snd [] t).2.1, 0)
/-- .. and opening. -/
def ssO (r : Rl) (s : Ses) (n : Nat) (b : List UInt8) (now : Nat) : Ses × List UInt8 × Int :=
  if r.expire ≤ snN s.born now then (s, [], 52) else if cmE s.came n ≠ 0 then (s, [], cmE s.came n) else
  if (opC ⟨s.rcv.key, n⟩ [] b).2.2 ≠ 0 then (s, [], (opC ⟨s.rcv.key, n⟩ [] b).2.2) else (⟨s.snd, s.rcv, s.born, s.sent, (mkL s.came n).1⟩, (opC ⟨s.rcv.key, n⟩ [] b).2.1, 0)
theorem exB_sent {r : Rl} (hr : RlW r) {s : Ses} {now : Nat} (h : exB r s now = false) : s.sent + 1 < 18446744073709551616 := by
  unfold exB at h
  simp only [Bool.or_eq_false_iff, decide_eq_false_iff_not] at h
  have := hr.ecount
  omega
theorem mkL_ok {l : List Nat} {n : Nat} (h : cmE l n = 0) : mkL l n = (l ++ [n], 0) := by unfold mkL; rw [if_pos h]
end Go.Proofs.YtliiofjcghdjoaaDoor

/- Rows of one's own, and bytes, beside a block that calls change. No program's text is named. -/
namespace Go.Proofs.YtliiofjcghdjoaaDoor
open Go.ChangeShapes Go.WideShapes Go.ChangeAt Go.RowKit
set_option linter.unusedSimpArgs false
set_option linter.unusedVariables false

/-- A row of bytes of one's own, made since a heap of so many blocks. -/
def Ow (e : TypeId) (base : Nat) (v : Value) (l : List UInt8) (w : World) : Prop := w.ownsRow base e 1 v l.length (l.map bv)
theorem Ow.rd {e : TypeId} {base : Nat} {v : Value} {l : List UInt8} {w : World} (h : Ow e base v l w) : Rd w v l := Rd.of_row h
theorem Ow.of_new {e : TypeId} {v : Value} {l : List UInt8} {w w' : World} (h : New e w v l w') : Ow e w.heap.size v l w' := h.1
theorem Ow.mono {e : TypeId} {base base' : Nat} {v : Value} {l : List UInt8} {w : World} (h : Ow e base v l w) (hb : base' ≤ base) : Ow e base' v l w := own_mono h hb
theorem Ow.kept {e : TypeId} {base : Nat} {v : Value} {l : List UInt8} {w w' : World} (h : Ow e base v l w) (hb : Below w.heap.size w w') : Ow e base v l w' := own_chg h (Chg.of_below (S := fun _ => False) hb) (fun _ _ => id)
theorem Ow.nil (e : TypeId) (base : Nat) (w : World) : Ow e base (.slice none 0 0) [] w := World.ownsRow_nil _ _ _ _
theorem Ow.not_blk {e ty : TypeId} {base g : Nat} {v : Value} {l : List UInt8} {cs : List Value} {w : World} (h : Ow e base v l w) (hb : BlkAt g ty cs w) (hne : e ≠ ty) : v.ownBlock ≠ some g := by
  rcases h.2 with ⟨rfl, h0⟩ | ⟨g', cap, cur, rfl, hb', hg, hn, hm, hs, ht⟩
  · simp [Value.ownBlock]
  · intro h
    have h1 : g' = g := by simpa [Value.ownBlock] using h
    subst h1
    unfold BlkAt at hb
    rw [hg] at hb
    simp at hb
    exact hne hb.2
/-- It stays where the block of another kind changes. -/
theorem Ow.chg {e ty : TypeId} {base g : Nat} {v : Value} {l : List UInt8} {cs : List Value} {w w' : World} (h : Ow e base v l w) (hb : BlkAt g ty cs w) (hne : e ≠ ty) (c : Chg (fun b => b = g) w w') : Ow e base v l w' :=
  own_chg h c fun b h1 h2 => h.not_blk hb hne (by rw [h1, h2])
/-- .. where a row that is newer, or older, is written. -/
theorem Ow.other {e : TypeId} {base g : Nat} {v : Value} {l : List UInt8} {w w' : World} (h : Ow e base v l w) (c : Chg (fun b => b = g) w w') (hg : v.ownBlock ≠ some g) : Ow e base v l w' :=
  own_chg h c fun b h1 h2 => hg (by rw [h1, h2])
theorem Ow.lt {e : TypeId} {base : Nat} {v : Value} {l : List UInt8} {w : World} (h : Ow e base v l w) {g : Nat} (hg : v.ownBlock = some g) : base ≤ g ∧ g < w.heap.size := World.ownsRow.lt h g hg
/-- Cells none of which is a byte. -/
def No8 (cs : List Value) : Prop := ∀ (j : Nat) (x : Int), cs[j]? ≠ some (.int .u8 x)
theorem Rd.past16 {w w' : World} {v : Value} {l : List UInt8} {g : Nat} {ty : TypeId} {cs : List Value} (h : Rd w v l) (hb : BlkAt g ty cs w) (hn : No8 cs) (c : Chg (fun b => b = g) w w') : Rd w' v l := by
  obtain ⟨a, k, e1, h2, h3, h4, h5⟩ := h
  refine ⟨a, k, e1, h2, h3, h4, h5.imp id ?_⟩
  rintro ⟨b, off, e2, hc⟩
  refine ⟨b, off, e2, fun i hi => ?_⟩
  have h6 := hc i hi
  have hne : b ≠ g := by
    rintro rfl
    rw [hb.cell] at h6
    exact hn _ _ h6
  rw [World.cell?_of_block (w := w) (c.block b (World.block_lt_of_cell? _ _ h6) hne)]
  exact h6
theorem Chg.gone {g B : Nat} {a w w' : World} (h : Below B a w) (c : Chg (fun b => b = g) w w') (hB : B ≤ w.heap.size) (hg : B ≤ g) : Below B a w' := c.below h hB fun k _ e => by omega
theorem No8.of_slices {cs : List Value} (h : ∀ v ∈ cs, ∀ x, v ≠ .int .u8 x) : No8 cs := fun j x e => h _ (List.mem_of_getElem? e) x rfl
/-- A cipher's cells, a state's cells. -/
def ckD (vk : Value) (n : Nat) : List Value := [vk, .int .u64 (n : Int)]
def stD (vc vh vk : Value) (n : Nat) : List Value := [vc, vh, vk, .int .u64 (n : Int)]
theorem ckD_no8 (a : Option Addr) (l c n : Nat) : No8 (ckD (.slice a l c) n) := No8.of_slices (by
  intro v hv x
  simp only [ckD, List.mem_cons, List.not_mem_nil, or_false] at hv
  rcases hv with rfl | rfl <;> simp)
theorem stD_no8 (a1 a2 a3 : Option Addr) (l1 c1 l2 c2 l3 c3 n : Nat) : No8 (stD (.slice a1 l1 c1) (.slice a2 l2 c2) (.slice a3 l3 c3) n) := No8.of_slices (by
  intro v hv x
  simp only [stD, List.mem_cons, List.not_mem_nil, or_false] at hv
  rcases hv with rfl | rfl | rfl | rfl <;> simp)
/-- Cells, a cipher's among them. -/
def inB (pre post : List Value) (vk : Value) (n : Nat) : List Value := pre ++ [vk, .int .u64 (n : Int)] ++ post
theorem set_mid (pre post : List Value) (a b c : Value) : (pre ++ [a, b] ++ post).set (pre.length + 1) c = pre ++ [a, c] ++ post := by
  rw [List.append_assoc, List.set_append_right _ _ (by omega), Nat.add_sub_cancel_left, List.append_assoc]
  rfl
theorem set_mid0 (pre post : List Value) (a b c : Value) : (pre ++ [a, b] ++ post).set pre.length c = pre ++ [c, b] ++ post := by
  rw [List.append_assoc, List.set_append_right _ _ (by omega), Nat.sub_self, List.append_assoc]
  rfl
theorem get_mid0 (pre post : List Value) (a b : Value) : (pre ++ [a, b] ++ post)[pre.length]? = some a := by
  rw [List.append_assoc, List.getElem?_append_right (Nat.le_refl _), Nat.sub_self]
  rfl
theorem get_mid1 (pre post : List Value) (a b : Value) : (pre ++ [a, b] ++ post)[pre.length + 1]? = some b := by
  rw [List.append_assoc, List.getElem?_append_right (by omega), Nat.add_sub_cancel_left]
  rfl
theorem inB_set (pre post : List Value) (vk : Value) (n m : Nat) : (inB pre post vk n).set (pre.length + 1) (.int .u64 (m : Int)) = inB pre post vk m := set_mid _ _ _ _ _
theorem inB_set0 (pre post : List Value) (vk v : Value) (n : Nat) : (inB pre post vk n).set pre.length v = inB pre post v n := set_mid0 _ _ _ _ _
theorem inB_get0 (pre post : List Value) (vk : Value) (n : Nat) : (inB pre post vk n)[pre.length]? = some vk := get_mid0 _ _ _ _
theorem inB_get1 (pre post : List Value) (vk : Value) (n : Nat) : (inB pre post vk n)[pre.length + 1]? = some (.int .u64 (n : Int)) := get_mid1 _ _ _ _
end Go.Proofs.YtliiofjcghdjoaaDoor

/- Two words that are moved by one: plain mathematics. No program's text is named. -/
namespace Go.Proofs.YtliiofjcghdjoaaDoor
set_option linter.unusedSimpArgs false
set_option linter.unusedVariables false

/-- The bits of two words, the lower one first. -/
def wbF (a b : Nat) (j : Nat) : Bool := if j < 64 then a.testBit j else b.testBit (j - 64)
/-- They stand for which numbers came: bit j for the one j below the greatest one. -/
structure Wn (l : List Nat) (a b : Nat) : Prop where
  lo : a < 18446744073709551616
  hi : b < 18446744073709551616
  bits : ∀ j, j < 128 → (wbF a b j = true ↔ j ≤ tpN l ∧ tpN l - j ∈ l)
theorem two64 : (2 : Nat) ^ 64 = 18446744073709551616 := by decide
theorem tb_hi {a : Nat} (h : a < 18446744073709551616) {j : Nat} (hj : 64 ≤ j) : a.testBit j = false := Nat.testBit_lt_two_pow (Nat.lt_of_lt_of_le (by rw [← two64] at h; exact h) (Nat.pow_le_pow_right (by decide) hj))
/-- One step: both words by one, the lower one's highest bit into the upper one. -/
def mvA (a : Nat) : Nat := a * 2 % 18446744073709551616
def mvB (a b : Nat) : Nat := b * 2 % 18446744073709551616 ||| a / 9223372036854775808
theorem mvA_bit (a j : Nat) : (mvA a).testBit j = (decide (j < 64) && (decide (1 ≤ j) && a.testBit (j - 1))) := by
  unfold mvA
  rw [show 18446744073709551616 = 2 ^ 64 from two64.symm, Nat.testBit_mod_two_pow, show a * 2 = a * 2 ^ 1 by simp, ← Nat.shiftLeft_eq, Nat.testBit_shiftLeft]
theorem mvB_bit {a : Nat} (ha : a < 18446744073709551616) (b j : Nat) : (mvB a b).testBit j = ((decide (j < 64) && (decide (1 ≤ j) && b.testBit (j - 1))) || a.testBit (j + 63)) := by
  unfold mvB
  rw [Nat.testBit_or, show a / 9223372036854775808 = a >>> 63 by rw [Nat.shiftRight_eq_div_pow], Nat.testBit_shiftRight, Nat.add_comm 63 j]
  congr 1
  rw [show 18446744073709551616 = 2 ^ 64 from two64.symm, Nat.testBit_mod_two_pow, show b * 2 = b * 2 ^ 1 by simp, ← Nat.shiftLeft_eq, Nat.testBit_shiftLeft]
theorem mvA_lt (a : Nat) : mvA a < 18446744073709551616 := Nat.mod_lt _ (by decide)
theorem mvB_lt {a : Nat} (ha : a < 18446744073709551616) (b : Nat) : mvB a b < 18446744073709551616 := by
  rw [← two64]
  refine Nat.or_lt_two_pow ?_ ?_
  · rw [two64]; exact Nat.mod_lt _ (by decide)
  · rw [two64]; omega
/-- The bits, moved by one. -/
theorem mv_bits {a b : Nat} (ha : a < 18446744073709551616) (j : Nat) (hj : j < 128) : wbF (mvA a) (mvB a b) j = (decide (1 ≤ j) && wbF a b (j - 1)) := by
  unfold wbF
  by_cases h : j < 64
  · rw [if_pos h, mvA_bit, decide_eq_true h, Bool.true_and]
    by_cases h0 : 1 ≤ j
    · rw [if_pos (by omega)]
    · simp [h0]
  · rw [if_neg h, mvB_bit ha]
    have h0 : 1 ≤ j := by omega
    by_cases h1 : j = 64
    · subst h1
      simp
    · rw [tb_hi ha (by omega), if_neg (by omega), show j - 64 - 1 = j - 1 - 64 by omega]
      have h2 : j - 64 < 64 := by omega
      have h3 : 1 ≤ j - 64 := by omega
      simp [h2, h3, h0]
/-- So many steps. -/
def mvN : Nat → Nat × Nat → Nat × Nat
  | 0, p => p
  | n + 1, p => mvN n (mvA p.1, mvB p.1 p.2)
theorem mvN_succ : ∀ (n : Nat) (p : Nat × Nat), mvN (n + 1) p = (mvA (mvN n p).1, mvB (mvN n p).1 (mvN n p).2)
  | 0, p => rfl
  | n + 1, p => by rw [show mvN (n + 1 + 1) p = mvN (n + 1) (mvA p.1, mvB p.1 p.2) from rfl, mvN_succ n]; rfl
theorem mvN_lt : ∀ (n : Nat) (p : Nat × Nat), p.1 < 18446744073709551616 → p.2 < 18446744073709551616 → (mvN n p).1 < 18446744073709551616 ∧ (mvN n p).2 < 18446744073709551616
  | 0, p, h1, h2 => ⟨h1, h2⟩
  | n + 1, p, h1, h2 => mvN_lt n _ (mvA_lt _) (mvB_lt h1 _)
theorem mvN_bits : ∀ (n : Nat) (a b : Nat), a < 18446744073709551616 → b < 18446744073709551616 → ∀ j, j < 128 → wbF (mvN n (a, b)).1 (mvN n (a, b)).2 j = (decide (n ≤ j) && wbF a b (j - n))
  | 0, a, b, ha, hb, j, hj => by simp [mvN]
  | n + 1, a, b, ha, hb, j, hj => by
    rw [show mvN (n + 1) (a, b) = mvN n (mvA a, mvB a b) from rfl, mvN_bits n _ _ (mvA_lt a) (mvB_lt ha b) j hj]
    by_cases h : n ≤ j
    · rw [mv_bits ha _ (by omega), decide_eq_true h, Bool.true_and, show j - n - 1 = j - (n + 1) by omega]
      congr 1
      exact decide_eq_decide.2 (by omega)
    · rw [decide_eq_false h, decide_eq_false (by omega : ¬ n + 1 ≤ j)]
      rfl
end Go.Proofs.YtliiofjcghdjoaaDoor

/- Which numbers may come, by the bits of two words: plain mathematics. No program's text is named. -/
namespace Go.Proofs.YtliiofjcghdjoaaDoor
set_option linter.unusedSimpArgs false
set_option linter.unusedVariables false

theorem Wn.none : Wn [] 0 0 := ⟨by decide, by decide, fun j hj => by simp [wbF]⟩
theorem wb_or {a b c d : Nat} (j : Nat) : wbF (a ||| c) (b ||| d) j = (wbF a b j || wbF c d j) := by
  unfold wbF
  split <;> simp [Nat.testBit_or]
/-- One bit alone. -/
theorem wb_one (d j : Nat) : wbF (if d < 64 then 2 ^ d else 0) (if d < 64 then 0 else 2 ^ (d - 64)) j = true ↔ j = d := by
  unfold wbF
  by_cases h : d < 64
  · rw [if_pos h, if_pos h]
    split
    · rw [Nat.testBit_two_pow]
      simp
      omega
    · simp
      omega
  · rw [if_neg h, if_neg h]
    split
    · simp
      omega
    · rw [Nat.testBit_two_pow]
      simp
      omega
/-- A number that is not above the greatest one. -/
theorem Wn.check {l : List Nat} {a b : Nat} (h : Wn l a b) {n : Nat} (h1 : n ≤ tpN l) : cmE l n = if 128 ≤ tpN l - n then 43 else if wbF a b (tpN l - n) = true then 43 else 0 := by
  unfold cmE
  by_cases h2 : 128 ≤ tpN l - n
  · rw [if_pos h2]
    split
    · rfl
    · rw [if_pos ⟨by omega, h2⟩]
  · rw [if_neg h2]
    have hb := h.bits (tpN l - n) (by omega)
    have e : tpN l - (tpN l - n) = n := by omega
    rw [e] at hb
    by_cases h3 : n ∈ l
    · rw [if_pos h3, if_pos (hb.2 ⟨by omega, h3⟩)]
    · rw [if_neg h3, if_neg (fun h => h2 h.2), if_neg (fun h => h3 (hb.1 h).2)]
/-- One above all. -/
theorem cm_above {l : List Nat} {n : Nat} (h : tpN l < n) : cmE l n = 0 := by
  unfold cmE
  rw [if_neg (fun h1 => by have := tpN_ge h1; omega), if_neg (by omega)]
theorem cm_none (n : Nat) : cmE [] n = 0 := by
  unfold cmE
  simp [tpN]
theorem Wn.first (n : Nat) : Wn [n] 1 0 := by
  refine ⟨by decide, by decide, fun j hj => ?_⟩
  have e : tpN [n] = n := by simp [tpN]
  rw [e]
  have h := wb_one 0 j
  simp only [show (0 : Nat) < 64 from by decide, if_true, Nat.pow_zero] at h
  rw [h]
  constructor
  · rintro rfl
    simp
  · rintro ⟨h1, h2⟩
    simp at h2
    omega
/-- A number that comes within the window. -/
theorem Wn.mark {l : List Nat} {a b n : Nat} (h : Wn l a b) (h1 : n ≤ tpN l) (h2 : tpN l - n < 128) :
    Wn (l ++ [n]) (a ||| (if tpN l - n < 64 then 2 ^ (tpN l - n) else 0)) (b ||| (if tpN l - n < 64 then 0 else 2 ^ (tpN l - n - 64))) ∧ tpN (l ++ [n]) = tpN l := by
  have ht : tpN (l ++ [n]) = tpN l := by rw [tpN_snoc]; omega
  refine ⟨⟨?_, ?_, fun j hj => ?_⟩, ht⟩
  · rw [← two64]
    refine Nat.or_lt_two_pow (by rw [two64]; exact h.lo) ?_
    split
    · exact Nat.pow_lt_pow_right (by decide) (by assumption)
    · exact Nat.pow_pos (by decide)
  · rw [← two64]
    refine Nat.or_lt_two_pow (by rw [two64]; exact h.hi) ?_
    split
    · exact Nat.pow_pos (by decide)
    · exact Nat.pow_lt_pow_right (by decide) (by omega)
  · rw [wb_or, Bool.or_eq_true, wb_one, h.bits j hj, ht, List.mem_append, List.mem_singleton]
    constructor
    · rintro (⟨h3, h4⟩ | h3)
      · exact ⟨h3, .inl h4⟩
      · exact ⟨by omega, .inr (by omega)⟩
    · rintro ⟨h3, h4 | h4⟩
      · exact .inl ⟨h3, h4⟩
      · exact .inr (by omega)
/-- A number above all: the bits move. -/
theorem Wn.up {l : List Nat} {a b n k : Nat} (h : Wn l a b) (h1 : tpN l < n) (hk : k = n - tpN l ∨ (128 ≤ k ∧ 128 ≤ n - tpN l)) :
    Wn (l ++ [n]) ((mvN k (a, b)).1 ||| 1) (mvN k (a, b)).2 ∧ tpN (l ++ [n]) = n := by
  have ht : tpN (l ++ [n]) = n := by rw [tpN_snoc]; omega
  have hlt := mvN_lt k (a, b) h.lo h.hi
  refine ⟨⟨?_, hlt.2, fun j hj => ?_⟩, ht⟩
  · rw [← two64]
    exact Nat.or_lt_two_pow (by rw [two64]; exact hlt.1) (by decide)
  · have e1 : wbF ((mvN k (a, b)).1 ||| 1) (mvN k (a, b)).2 j = wbF ((mvN k (a, b)).1 ||| 1) ((mvN k (a, b)).2 ||| 0) j := by rw [Nat.or_zero]
    have h5 := wb_one 0 j
    simp only [show (0 : Nat) < 64 from by decide, if_true, Nat.pow_zero] at h5
    rw [e1, wb_or, Bool.or_eq_true, h5, mvN_bits k a b h.lo h.hi j hj, ht, List.mem_append, List.mem_singleton, Bool.and_eq_true, decide_eq_true_eq]
    constructor
    · rintro (⟨h3, h4⟩ | rfl)
      · have h6 := (h.bits (j - k) (by omega)).1 h4
        rcases hk with rfl | hk
        · refine ⟨by omega, .inl ?_⟩
          rw [show n - j = tpN l - (j - (n - tpN l)) by omega]
          exact h6.2
        · omega
      · exact ⟨by omega, .inr rfl⟩
    · rintro ⟨h3, h4 | h4⟩
      · have h6 := tpN_ge h4
        left
        rcases hk with rfl | hk
        · refine ⟨by omega, (h.bits (j - (n - tpN l)) (by omega)).2 ⟨by omega, ?_⟩⟩
          rw [show tpN l - (j - (n - tpN l)) = n - j by omega]
          exact h4
        · omega
      · right
        omega
theorem tpN_congr {l m : List Nat} (h : ∀ x, x ∈ l ↔ x ∈ m) : tpN l = tpN m := by
  have key : ∀ {l m : List Nat}, (∀ x, x ∈ l ↔ x ∈ m) → tpN l ≤ tpN m := fun {l m} h => by
    by_cases h0 : l = []
    · subst h0
      simp [tpN]
    · exact tpN_ge ((h _).1 (tpN_mem h0))
  exact Nat.le_antisymm (key h) (key fun x => (h x).symm)
/-- Which numbers may come hangs on which came alone. -/
theorem cm_congr {l m : List Nat} (h : ∀ x, x ∈ l ↔ x ∈ m) (n : Nat) : cmE l n = cmE m n := by
  unfold cmE
  rw [tpN_congr h]
  by_cases h1 : n ∈ l
  · rw [if_pos h1, if_pos ((h n).1 h1)]
  · rw [if_neg h1, if_neg fun h2 => h1 ((h n).2 h2)]
/-- Near to one another each one may come that didn't. -/
theorem cm_near {l : List Nat} {n B : Nat} (hl : ∀ x ∈ l, B ≤ x ∧ x < B + 128) (hn : B ≤ n) : cmE l n = if n ∈ l then 43 else 0 := by
  unfold cmE
  by_cases h1 : n ∈ l
  · rw [if_pos h1, if_pos h1]
  · rw [if_neg h1, if_neg h1]
    by_cases h0 : l = []
    · subst h0
      simp [tpN]
    · have := hl _ (tpN_mem h0)
      rw [if_neg (by omega)]
theorem mk_mem (l : List Nat) (n x : Nat) : x ∈ (mkL l n).1 ↔ x ∈ l ∨ (x = n ∧ cmE l n = 0) := by
  unfold mkL
  by_cases h : cmE l n = 0
  · rw [if_pos h]
    simp [h]
  · rw [if_neg h]
    simp [h]
/-- Did any come? -/
theorem Wn.some {l : List Nat} {a b : Nat} (h : Wn l a b) : wbF a b 0 = decide (0 < l.length) := by
  have h1 := h.bits 0 (by decide)
  rw [Bool.eq_iff_iff, h1, decide_eq_true_eq]
  constructor
  · rintro ⟨-, h2⟩
    exact List.length_pos_of_mem h2
  · intro h2
    exact ⟨Nat.zero_le _, tpN_mem (List.length_pos_iff.1 h2)⟩
end Go.Proofs.YtliiofjcghdjoaaDoor

/- Numbers that came, as bits of two words: contracts of package window within a session, first part. -/
namespace Go.Proofs.YtliiofjcghdjoaaDoor
open Go.ChangeShapes Go.WideShapes Go.ChangeAt Go.RowKit
set_option linter.unusedSimpArgs false
set_option linter.unusedVariables false

/-- A session's cells, its window's told: the greatest number, two words. -/
def wiC (f : Nat → Value) (T a b : Nat) : List Value := [f 0, f 1, f 2, f 3, f 4, f 5, f 6, f 7, f 8, f 9, .int .u64 (T : Int), .int .u64 (a : Int), .int .u64 (b : Int), f 13, f 14]
theorem and_oneW22 (n : Nat) (hn : n < 18446744073709551616) : bits .and .u64 (n : Int) 1 = ((n % 2 : Nat) : Int) := by
  have := u64_and_nat n 1 hn (by decide)
  rw [show (1 : Int) = ((1 : Nat) : Int) from rfl, this, show (1 : Nat) = 2 ^ 1 - 1 from rfl, Nat.and_two_pow_sub_one_eq_mod]
theorem wb_word22 (a b d : Nat) (hd : d < 128) : wbF a b d = ((if d < 64 then a else b) / 2 ^ (d % 64) % 2 == 1) := by
  unfold wbF
  by_cases h : d < 64
  · rw [if_pos h, if_pos h, Nat.mod_eq_of_lt h, Nat.testBit_eq_decide_div_mod_eq]
    rfl
  · rw [if_neg h, if_neg h, Nat.testBit_eq_decide_div_mod_eq, show d % 64 = d - 64 by omega]
    rfl
theorem cellW22 {w W : World} {p : Addr} {v : Value} (h : w.cell? p = some v) (hW : Below w.heap.size w W) : W.cell? p = some v := by
  rw [hW.cell (World.block_lt_of_cell? _ _ h)]
  exact h
theorem eq_oneW22 (p : Nat) : ((p : Int) == 1) = (p == 1) := by
  rw [Bool.eq_iff_iff]
  simp only [beq_iff_eq]
  omega
set_option maxRecDepth 100000 in
set_option maxHeartbeats 1000000 in
theorem has22_any (f : Nat → Value) (g T a b d : Nat) (D : Int) (hD : D = (d : Int)) (ha : a < 18446744073709551616) (hb : b < 18446744073709551616) (hd : d < 128) (w : World) (hB : BlkAt g 80 (wiC f T a b) w) :
    Calls Tryd.prog 42 #[.pointer (some ⟨g, 10, none⟩), .int .u64 D] w fun e w' => e = .returned (.bool (wbF a b d)) ∧ w' = w := by
  subst hD
  obtain ⟨x, hx⟩ : ∃ x : Nat, x = if d < 64 then a else b := ⟨_, rfl⟩
  obtain ⟨q, hq⟩ : ∃ q : Nat, q = d / 64 := ⟨_, rfl⟩
  obtain ⟨r, hr⟩ : ∃ r : Nat, r = d % 64 := ⟨_, rfl⟩
  have hx64 : x < 18446744073709551616 := by rw [hx]; split <;> assumption
  have hc : w.cell? ⟨g, 11 + q, none⟩ = some (.int .u64 (x : Int)) := by
    rw [hB.cell, hx]
    rcases Nat.lt_or_ge d 64 with h | h
    · rw [if_pos h, show q = 0 by omega]; rfl
    · rw [if_neg (by omega), show q = 1 by omega]; rfl
  have q1 : ((d : Nat) : Int).tdiv 64 = (q : Int) := by rw [Int.tdiv_eq_ediv_of_nonneg (by omega)]; omega
  have q2 : ((d : Nat) : Int) / 64 = (q : Int) := by omega
  have r1 : ((d : Nat) : Int).tmod 64 = (r : Int) := by rw [Int.tmod_eq_emod_of_nonneg (by omega)]; omega
  have r2 : ((d : Nat) : Int) % 64 = (r : Int) := by omega
  have hq2 : (q : Int) < 2 := by omega
  have hqN : q < 2 := by omega
  have hr64 : (r : Int) < 64 := by omega
  have hrN : r < 64 := by omega
  have qw : IntKind.u64.wrap (q : Int) = (q : Int) := by rw [IntKind.wrap_u64]; omega
  have rw' : IntKind.u64.wrap (r : Int) = (r : Int) := by rw [IntKind.wrap_u64]; omega
  have xw : IntKind.u64.wrap (x : Int) = (x : Int) := by rw [IntKind.wrap_u64]; omega
  obtain ⟨y, hy⟩ : ∃ y : Nat, y = x / 2 ^ r := ⟨_, rfl⟩
  have y1 : (x : Int) / 2 ^ r = (y : Int) := by rw [hy]; simp
  have hy64 : y < 18446744073709551616 := by rw [hy]; exact Nat.lt_of_le_of_lt (Nat.div_le_self _ _) hx64
  have yw : IntKind.u64.wrap (y : Int) = (y : Int) := by rw [IntKind.wrap_u64]; omega
  obtain ⟨p, hp⟩ : ∃ p : Nat, p = y % 2 := ⟨_, rfl⟩
  have p1 := and_oneW22 y hy64
  rw [← hp] at p1
  have HP : Hid (wbF a b d = (p == 1)) := (by rw [wb_word22 _ _ _ hd, ← hx, ← hr, ← hy, ← hp] : wbF a b d = (p == 1))
  clear hp hx hy hq hr hB hd ha hb hx64
  go_enter Tryd.func42, Tryd.ntmps42
  go_wp2
  go_ret
  rw [HP.out]
  exact ⟨by rw [← eq_oneW22 p]; rfl, rfl⟩

set_option maxRecDepth 100000 in
set_option maxHeartbeats 1000000 in
theorem move22_any (f : Nat → Value) (g T a b k : Nat) (K : Int) (hK : K = (k : Int)) (hk : k < 18446744073709551616) (ha : a < 18446744073709551616) (hb : b < 18446744073709551616) (w : World) (hB : BlkAt g 80 (wiC f T a b) w) :
    Calls Tryd.prog 44 #[.pointer (some ⟨g, 10, none⟩), .int .u64 K] w fun e w' => e = .returned (.tuple #[]) ∧ BlkAt g 80 (wiC f T (mvN (min k 128) (a, b)).1 (mvN (min k 128) (a, b)).2) w' ∧ Chg (fun i => i = g) w w' := by
  subst hK
  obtain ⟨m, hm⟩ : ∃ m : Nat, m = min k 128 := ⟨_, rfl⟩
  rw [← hm]
  have hm128 : m ≤ 128 := by omega
  have hway : (m = k ∧ (k : Int) ≤ 128) ∨ (m = 128 ∧ ¬ (k : Int) ≤ 128) := by omega
  have HAB : Hid (a < 18446744073709551616 ∧ b < 18446744073709551616) := ⟨ha, hb⟩
  have HB : Hid (BlkAt g 80 (wiC f T a b) w) := hB
  clear hm ha hb hB
  rcases hway with ⟨h1, h2⟩ | ⟨h1, h2⟩
  all_goals
    have H1 : Hid _ := h1
    clear h1
    go_enter Tryd.func44, Tryd.ntmps44
    go_wp2
    go_loopw [6] (fun iv wr => ∃ i : Nat, i ≤ m ∧ iv = .int .u64 (i : Int) ∧ Hid (BlkAt g 80 (wiC f T (mvN i (a, b)).1 (mvN i (a, b)).2) wr ∧ Chg (fun i => i = g) w wr)) (fun iv _ => m - (intOf iv).toNat)
    case atStart => exact ⟨0, by omega, rfl, HB.out, Chg.refl _ _⟩
    case round =>
      obtain ⟨i, hi, rfl, HI⟩ := hrel
      by_cases hlt : i < m
      · have hd : decide ((i : Int) < (k : Int)) = true := decide_eq_true (by have := H1.out; omega)
        have hd2 : decide ((i : Int) < 128) = true := decide_eq_true (by omega)
        have hdN : decide (i < k) = true := decide_eq_true (by have := H1.out; omega)
        obtain ⟨hK, hC⟩ := HI.out
        have hs := mvN_succ i (a, b)
        have hab := mvN_lt i (a, b) HAB.out.1 HAB.out.2
        have HS : Hid _ := hs
        obtain ⟨p, hp⟩ : ∃ p : Nat, p = (mvN i (a, b)).1 := ⟨_, rfl⟩
        obtain ⟨q, hq⟩ : ∃ q : Nat, q = (mvN i (a, b)).2 := ⟨_, rfl⟩
        rw [← hp, ← hq] at hK hab
        have hc1 : wr.cell? ⟨g, 11, none⟩ = some (.int .u64 (p : Int)) := by rw [hK.cell]; rfl
        have hc2 : wr.cell? ⟨g, 12, none⟩ = some (.int .u64 (q : Int)) := by rw [hK.cell]; rfl
        have hf1 := hK.free 11
        have hf2 := hK.free 12
        obtain ⟨hp64, hq64⟩ := hab
        obtain ⟨q2, hq2⟩ : ∃ n : Nat, n = q * 2 % 18446744073709551616 := ⟨_, rfl⟩
        obtain ⟨p1, hp1⟩ : ∃ n : Nat, n = p / 9223372036854775808 := ⟨_, rfl⟩
        obtain ⟨p2, hp2⟩ : ∃ n : Nat, n = p * 2 % 18446744073709551616 := ⟨_, rfl⟩
        obtain ⟨z, hz⟩ : ∃ n : Nat, n = q2 ||| p1 := ⟨_, rfl⟩
        have e1 : IntKind.u64.wrap ((q : Int) * 2) = (q2 : Int) := by rw [IntKind.wrap_u64]; omega
        have e2 : (p : Int) / 9223372036854775808 = (p1 : Int) := by omega
        have e3 : IntKind.u64.wrap ((p : Int) * 2) = (p2 : Int) := by rw [IntKind.wrap_u64]; omega
        have e4 : bits .or .u64 (q2 : Int) (p1 : Int) = (z : Int) := by rw [hz]; exact u64_or_nat q2 p1 (by omega) (by omega)
        have HZ : Hid (mvN (i + 1) (a, b) = (p2, z)) := (by rw [HS.out, ← hp, ← hq, hz, hp2, hq2, hp1]; rfl : mvN (i + 1) (a, b) = (p2, z))
        clear hp hq hs HS hq2 hp1 hp2 hz hp64 hq64
        go_wp2_with fail
        have hB : Below wr.heap.size wr wr.drew := (Below.refl _ _).drew
        refine wpF_begin 17 (w0 := wr) (by kernel_rfl) ?_
        refine fP_ (.inr hB) 0 rfl ⟨_, by intro W; go_simp <;> with_reducible rfl, ?_⟩
        try simp only [Act.put, pA_, pB_, pC_]
        refine fP_ (.inr hB) 1 rfl ⟨_, by intro W; go_simp <;> with_reducible rfl, ?_⟩
        try simp only [Act.put, pA_, pB_, pC_]
        refine fP_ (.inr hB) 2 rfl ⟨_, by intro W; go_simp <;> with_reducible rfl, ?_⟩
        try simp only [Act.put, pA_, pB_, pC_]
        refine fP_ (.inr hB) 3 rfl ⟨_, by intro W; go_simp <;> with_reducible rfl, ?_⟩
        try simp only [Act.put, pA_, pB_, pC_]
        refine fP_ (.inr hB) 4 rfl ⟨_, by intro W; go_simp <;> with_reducible rfl, ?_⟩
        try simp only [Act.put, pA_, pB_, pC_]
        refine fU_ hB 5 rfl ⟨_, by intro W hW; have hcW := cellW22 hc2 hW; go_simp <;> with_reducible rfl, ?_⟩
        try simp only [Act.put, pA_, pB_, pC_]
        refine fP_ (.inr hB) 6 rfl ⟨_, by intro W; go_simp <;> with_reducible rfl, ?_⟩
        try simp only [Act.put, pA_, pB_, pC_]
        refine fP_ (.inr hB) 7 rfl ⟨_, by intro W; go_simp <;> with_reducible rfl, ?_⟩
        try simp only [Act.put, pA_, pB_, pC_]
        refine fP_ (.inr hB) 8 rfl ⟨_, by intro W; go_simp <;> with_reducible rfl, ?_⟩
        try simp only [Act.put, pA_, pB_, pC_]
        refine fP_ (.inr hB) 9 rfl ⟨_, by intro W; go_simp <;> with_reducible rfl, ?_⟩
        try simp only [Act.put, pA_, pB_, pC_]
        refine fP_ (.inr hB) 10 rfl ⟨_, by intro W; go_simp <;> with_reducible rfl, ?_⟩
        try simp only [Act.put, pA_, pB_, pC_]
        refine fU_ hB 11 rfl ⟨_, by intro W hW; have hcW := cellW22 hc1 hW; go_simp <;> with_reducible rfl, ?_⟩
        try simp only [Act.put, pA_, pB_, pC_]
        refine fP_ (.inr hB) 12 rfl ⟨_, by intro W; go_simp <;> with_reducible rfl, ?_⟩
        try simp only [Act.put, pA_, pB_, pC_]
        refine fP_ (.inr hB) 13 rfl ⟨_, by intro W; go_simp <;> with_reducible rfl, ?_⟩
        try simp only [Act.put, pA_, pB_, pC_]
        refine fP_ (.inr hB) 14 rfl ⟨_, by intro W; go_simp <;> with_reducible rfl, ?_⟩
        try simp only [Act.put, pA_, pB_, pC_]
        refine fP_ (.inr hB) 15 rfl ⟨_, by intro W; go_simp <;> with_reducible rfl, ?_⟩
        try simp only [Act.put, pA_, pB_, pC_]
        refine fP_ (.inr hB) 16 rfl ⟨_, by intro W; go_simp <;> with_reducible rfl, ?_⟩
        try simp only [Act.put, pA_, pB_, pC_]
        refine fD_ 17 fun K hK => ?_
        go_simp
        refine hK.out _ _ (.inl rfl) ?_
        clear hK K
        try simp only [Act.put, pA_, pB_, pC_]
        refine wpF_done (by kernel_rfl) ?_
        have hB3 : BlkAt g 80 (wiC f T p z) (wr.setCell ⟨g, 12, none⟩ (.int .u64 (z : Int))).drew := (hK.set 12 _).drew
        have hC3 := (hC.trans (Chg.of_wrote (Wrote.set g 12 wr (.int .u64 (z : Int))))).drew
        generalize (wr.setCell ⟨g, 12, none⟩ (.int .u64 (z : Int))).drew = w3 at hB3 hC3 ⊢
        have hd1 : w3.cell? ⟨g, 11, none⟩ = some (.int .u64 (p : Int)) := by rw [hB3.cell]; rfl
        have hg1 := hB3.free 11
        clear hc1 hc2 hf1 hf2 hB hC HI hK
        go_wp2_with fail
        have hB : Below w3.heap.size w3 w3.drew := (Below.refl _ _).drew
        refine wpF_begin 9 (w0 := w3) (by kernel_rfl) ?_
        refine fP_ (.inr hB) 0 rfl ⟨_, by intro W; go_simp <;> with_reducible rfl, ?_⟩
        try simp only [Act.put, pA_, pB_, pC_]
        refine fP_ (.inr hB) 1 rfl ⟨_, by intro W; go_simp <;> with_reducible rfl, ?_⟩
        try simp only [Act.put, pA_, pB_, pC_]
        refine fP_ (.inr hB) 2 rfl ⟨_, by intro W; go_simp <;> with_reducible rfl, ?_⟩
        try simp only [Act.put, pA_, pB_, pC_]
        refine fP_ (.inr hB) 3 rfl ⟨_, by intro W; go_simp <;> with_reducible rfl, ?_⟩
        try simp only [Act.put, pA_, pB_, pC_]
        refine fU_ hB 4 rfl ⟨_, by intro W hW; have hcW := cellW22 hd1 hW; go_simp <;> with_reducible rfl, ?_⟩
        try simp only [Act.put, pA_, pB_, pC_]
        refine fP_ (.inr hB) 5 rfl ⟨_, by intro W; go_simp <;> with_reducible rfl, ?_⟩
        try simp only [Act.put, pA_, pB_, pC_]
        refine fP_ (.inr hB) 6 rfl ⟨_, by intro W; go_simp <;> with_reducible rfl, ?_⟩
        try simp only [Act.put, pA_, pB_, pC_]
        refine fP_ (.inr hB) 7 rfl ⟨_, by intro W; go_simp <;> with_reducible rfl, ?_⟩
        try simp only [Act.put, pA_, pB_, pC_]
        refine fP_ (.inr hB) 8 rfl ⟨_, by intro W; go_simp <;> with_reducible rfl, ?_⟩
        try simp only [Act.put, pA_, pB_, pC_]
        refine fD_ 9 fun K hK => ?_
        go_simp
        refine hK.out _ _ (.inl rfl) ?_
        clear hK K
        try simp only [Act.put, pA_, pB_, pC_]
        refine wpF_done (by kernel_rfl) ?_
        have hB4 : BlkAt g 80 (wiC f T p2 z) (w3.setCell ⟨g, 11, none⟩ (.int .u64 (p2 : Int))).drew := (hB3.set 11 _).drew
        have hC4 := (hC3.trans (Chg.of_wrote (Wrote.set g 11 w3 (.int .u64 (p2 : Int))))).drew
        have HI4 : Hid (BlkAt g 80 (wiC f T (mvN (i + 1) (a, b)).1 (mvN (i + 1) (a, b)).2) (w3.setCell ⟨g, 11, none⟩ (.int .u64 (p2 : Int))).drew ∧ Chg (fun i => i = g) w (w3.setCell ⟨g, 11, none⟩ (.int .u64 (p2 : Int))).drew) := (by rw [HZ.out]; exact ⟨hB4, hC4⟩ : _ ∧ _)
        clear hB3 hC3 hB4 hC4 hd1 hg1
        generalize (w3.setCell ⟨g, 11, none⟩ (.int .u64 (p2 : Int))).drew = w4 at HI4 ⊢
        have ei : IntKind.u64.wrap ((i : Int) + 1) = ((i + 1 : Nat) : Int) := by rw [IntKind.wrap_u64]; omega
        go_wp2
        go_roundw
        case rel => exact ⟨i + 1, by omega, by go_num, HI4⟩
        case measure => simp [intOf] <;> omega
      · have hie : i = m := by omega
        subst hie
        have h5 : Hid _ := HI.out
        clear HI
        by_cases hk1 : (i : Int) < (k : Int)
        · first
          | (exfalso; have := H1.out; omega)
          | (have h3 : decide ((i : Int) < 128) = false := decide_eq_false (by have := H1.out; omega)
             go_wp2
             go_end0
             exact ⟨rfl, h5.out.1, h5.out.2⟩)
        · first
          | (exfalso; have := H1.out; omega)
          | (have h3 : decide ((i : Int) < (k : Int)) = false := decide_eq_false hk1
             have h3N : decide (i < k) = false := decide_eq_false (by omega)
             go_wp2
             go_end0
             exact ⟨rfl, h5.out.1, h5.out.2⟩)
end Go.Proofs.YtliiofjcghdjoaaDoor

/- Numbers that came, as bits of two words: contracts of package window within a session, second part. -/
namespace Go.Proofs.YtliiofjcghdjoaaDoor
open Go.ChangeShapes Go.WideShapes Go.ChangeAt Go.RowKit
set_option linter.unusedSimpArgs false
set_option linter.unusedVariables false

/-- A window in a session in block g, to which these numbers came. -/
def WnP22 (g : Nat) (f : Nat → Value) (l : List Nat) (w : World) : Prop := ∃ a b, Wn l a b ∧ tpN l < 18446744073709551616 ∧ BlkAt g 80 (wiC f (tpN l) a b) w
theorem WnP22.chg {S : Nat → Prop} {g : Nat} {f : Nat → Value} {l : List Nat} {w w' : World} (h : WnP22 g f l w) (c : Chg S w w') (hS : ¬ S g) : WnP22 g f l w' := by
  obtain ⟨a, b, h1, h2, h3⟩ := h
  exact ⟨a, b, h1, h2, h3.chg c hS⟩
theorem WnP22.kept {g : Nat} {f : Nat → Value} {l : List Nat} {w w' : World} (h : WnP22 g f l w) (c : Below w.heap.size w w') : WnP22 g f l w' := h.chg (Chg.of_below (S := fun _ => False) c) id
theorem WnP22.drew {g : Nat} {f : Nat → Value} {l : List Nat} {w : World} (h : WnP22 g f l w) : WnP22 g f l w.drew := h
theorem WnP22.lt {g : Nat} {f : Nat → Value} {l : List Nat} {w : World} (h : WnP22 g f l w) : g < w.heap.size := by
  obtain ⟨_, _, _, _, h⟩ := h
  exact h.lt

set_option maxRecDepth 100000 in
set_option maxHeartbeats 1000000 in
theorem wcheck22_any (f : Nat → Value) (g : Nat) (l : List Nat) (n : Nat) (N : Int) (hN : N = (n : Int)) (hn : n < 18446744073709551616) (w : World) (hW : WnP22 g f l w) :
    Calls Tryd.prog 32 #[.pointer (some ⟨g, 10, none⟩), .int .u64 N] w fun e w' => e = .returned (.int .i64 (cmE l n)) ∧ w' = w := by
  subst hN
  obtain ⟨a, b, hw, hT, hB⟩ := hW
  have hc0 : w.cell? ⟨g, 10, none⟩ = some (.int .u64 ((tpN l : Nat) : Int)) := by rw [hB.cell]; rfl
  have HB : Hid _ := hB
  have HW : Hid _ := hw
  by_cases h1 : tpN l < n
  · have HC : Hid (cmE l n = 0) := cm_above h1
    generalize tpN l = t at hc0 hT h1
    have d1 : decide ((t : Int) < (n : Int)) = true := decide_eq_true (by omega)
    have dN : decide (t < n) = true := decide_eq_true h1
    clear hB hw
    go_enter Tryd.func32, Tryd.ntmps32
    go_wp2
    go_ret
    exact ⟨retI HC.out.symm, rfl⟩
  · have hck := hw.check (n := n) (by omega)
    obtain ⟨D, hD⟩ : ∃ D : Nat, D = tpN l - n := ⟨_, rfl⟩
    rw [← hD] at hck
    have HCk : Hid _ := hck
    have d1 : decide (((tpN l : Nat) : Int) < (n : Int)) = false := decide_eq_false (by omega)
    have dN : decide (tpN l < n) = false := decide_eq_false h1
    have e1 : IntKind.u64.wrap (((tpN l : Nat) : Int) - (n : Int)) = (D : Int) := by rw [IntKind.wrap_u64]; omega
    by_cases h2 : 128 ≤ D
    · have HC : Hid (cmE l n = 43) := (by rw [hck, if_pos h2] : cmE l n = 43)
      have d2 : decide ((128 : Int) ≤ (D : Int)) = true := decide_eq_true (by omega)
      generalize tpN l = t at hc0 d1 dN e1
      clear hB hw hck hD HCk HB HW h1 hT
      go_enter Tryd.func32, Tryd.ntmps32
      go_wp2
      go_ret
      exact ⟨retI HC.out.symm, rfl⟩
    · have HC : Hid (cmE l n = if wbF a b D = true then 43 else 0) := (by rw [hck, if_neg h2] : cmE l n = if wbF a b D = true then 43 else 0)
      have d2 : decide ((128 : Int) ≤ (D : Int)) = false := decide_eq_false (by omega)
      have hD128 : D < 128 := by omega
      obtain ⟨r, hr⟩ : ∃ r, r = cmE l n := ⟨_, rfl⟩
      rw [← hr] at HC ⊢
      have hhas := has22_any f g (tpN l) a b D _ rfl hw.lo hw.hi hD128 w hB
      have HH : Hid _ := hhas
      generalize tpN l = t at hc0 d1 dN e1
      obtain ⟨q, hq⟩ : ∃ q, q = wbF a b D := ⟨_, rfl⟩
      rw [← hq] at HC HH
      clear hB hw hck hD HCk HB HW h1 hT hr hhas hq h2
      go_enter Tryd.func32, Tryd.ntmps32
      go_wp2_with fail
      refine Calls.mono HH.out ?_
      rintro e w1 ⟨rfl, rfl⟩
      cases q
      · go_wp2
        go_ret
        exact ⟨retI (by rw [HC.out]; rfl), rfl⟩
      · go_wp2
        go_ret
        exact ⟨retI (by rw [HC.out]; rfl), rfl⟩

end Go.Proofs.YtliiofjcghdjoaaDoor

/- A number comes: contracts of package window within a session, third part. -/
namespace Go.Proofs.YtliiofjcghdjoaaDoor
open Go.ChangeShapes Go.WideShapes Go.ChangeAt Go.RowKit
set_option linter.unusedSimpArgs false
set_option linter.unusedVariables false

/-- One bit more in one of two words. -/
theorem wiC_or (f : Nat → Value) (T a b q r d x z : Nat) (hd : d < 128) (hq : q = d / 64) (hr : r = d % 64) (hx : x = if d < 64 then a else b) (hz : z = x ||| 2 ^ r) :
    (wiC f T a b).set (11 + q) (.int .u64 (z : Int)) = wiC f T (a ||| (if d < 64 then 2 ^ d else 0)) (b ||| (if d < 64 then 0 else 2 ^ (d - 64))) := by
  subst hz hx hq hr
  rcases Nat.lt_or_ge d 64 with h | h
  · rw [if_pos h, if_pos h, if_pos h, Nat.or_zero, show d / 64 = 0 by omega, show d % 64 = d by omega]
    rfl
  · rw [if_neg (by omega), if_neg (by omega), if_neg (by omega), Nat.or_zero, show d / 64 = 1 by omega, show d % 64 = d - 64 by omega]
    rfl

set_option maxRecDepth 100000 in
set_option maxHeartbeats 2000000 in
theorem wmark22_any (f : Nat → Value) (g : Nat) (l : List Nat) (n : Nat) (N : Int) (hN : N = (n : Int)) (hn : n < 18446744073709551616) (w : World) (hW : WnP22 g f l w) :
    Calls Tryd.prog 34 #[.pointer (some ⟨g, 10, none⟩), .int .u64 N] w fun e w' => e = .returned (.int .i64 (mkL l n).2) ∧ WnP22 g f (mkL l n).1 w' ∧ Chg (fun i => i = g) w w' := by
  subst hN
  have hC := wcheck22_any f g l n _ rfl hn w hW
  have HW : Hid (WnP22 g f l w) := hW
  have HM : Hid (mkL l n = if cmE l n = 0 then (l ++ [n], 0) else (l, cmE l n)) := rfl
  obtain ⟨G, hG⟩ : ∃ G, G = mkL l n := ⟨_, rfl⟩
  rw [← hG] at HM ⊢
  rcases cmE_ways l n with ⟨h0, -⟩ | ⟨h0, h1, h2⟩
  · rw [h0] at hC HM
    have HC : Hid _ := hC
    have hG2 : G = (l, 43) := HM.out
    subst hG2
    clear hC HM hG h0 hW
    go_enter Tryd.func34, Tryd.ntmps34
    go_wp2_with fail
    refine Calls.mono HC.out ?_
    rintro e w1 ⟨rfl, rfl⟩
    go_wp2
    go_ret
    exact ⟨rfl, HW.out, Chg.refl _ _⟩
  · rw [h0] at hC HM
    have HC : Hid _ := hC
    have hG2 : G = (l ++ [n], 0) := HM.out
    subst hG2
    obtain ⟨a, b, hw, hT, hB⟩ := hW
    have hc0 : w.cell? ⟨g, 10, none⟩ = some (.int .u64 ((tpN l : Nat) : Int)) := by rw [hB.cell]; rfl
    clear hC HM hG h0
    by_cases h3 : tpN l < n
    · obtain ⟨K, hK⟩ : ∃ K : Nat, K = n - tpN l := ⟨_, rfl⟩
      have hup := hw.up (n := n) (k := min K 128) h3 (by omega)
      have hK64 : K < 18446744073709551616 := by omega
      have hmv := move22_any f g (tpN l) a b K _ rfl hK64 hw.lo hw.hi w hB
      have e1 : IntKind.u64.wrap ((n : Int) - ((tpN l : Nat) : Int)) = (K : Int) := by rw [IntKind.wrap_u64]; omega
      have d1 : decide (((tpN l : Nat) : Int) < (n : Int)) = true := decide_eq_true (by omega)
      have dN : decide (tpN l < n) = true := decide_eq_true h3
      have HMv : Hid _ := hmv
      have HU : Hid _ := hup
      have HN : Hid (n < 18446744073709551616) := hn
      obtain ⟨t, ht⟩ : ∃ t, t = tpN l := ⟨_, rfl⟩
      rw [← ht] at hc0 hT d1 dN e1 HMv
      generalize (mvN (min K 128) (a, b)).1 = a2 at HMv HU
      generalize (mvN (min K 128) (a, b)).2 = b2 at HMv HU
      clear hmv hup hB hw hK hK64 ht h1 h2 h3 HW hn
      go_enter Tryd.func34, Tryd.ntmps34
      go_wp2_with fail
      refine Calls.mono HC.out ?_
      rintro e w1 ⟨rfl, rfl⟩
      go_wp2_with fail
      refine Calls.mono HMv.out ?_
      rintro e w2 ⟨rfl, hB2, hC2⟩
      have g0 : w2.cell? ⟨g, 10, none⟩ = some (.int .u64 (t : Int)) := by rw [hB2.cell]; rfl
      have f0 := hB2.free 10
      have hB3 : BlkAt g 80 (wiC f n a2 b2) (w2.setCell ⟨g, 10, none⟩ (.int .u64 (n : Int))) := hB2.set 10 _
      have hC3 := hC2.trans (Chg.of_wrote (Wrote.set g 10 w2 (.int .u64 (n : Int))))
      have g1 : (w2.setCell ⟨g, 10, none⟩ (.int .u64 (n : Int))).cell? ⟨g, 11, none⟩ = some (.int .u64 (a2 : Int)) := by rw [hB3.cell]; rfl
      have k1 := hB3.free 11
      have HB3 : Hid (BlkAt g 80 (wiC f n a2 b2) (w2.setCell ⟨g, 10, none⟩ (.int .u64 (n : Int)))) := hB3
      have w00 : IntKind.u64.wrap 0 = 0 := rfl
      have w11 : IntKind.u64.wrap 1 = 1 := rfl
      have HC3 : Hid _ := hC3
      obtain ⟨z, hz⟩ : ∃ z : Nat, z = a2 ||| 1 := ⟨_, rfl⟩
      have e4 : bits .or .u64 (a2 : Int) 1 = (z : Int) := by
        rw [hz]
        have := HU.out.1.lo
        exact u64_or_nat a2 1 (Nat.lt_of_le_of_lt (by rw [show a2 ||| 1 = a2 ||| 1 from rfl]; exact Nat.left_le_or) this) (by decide)
      have HZ : Hid (z = a2 ||| 1) := hz
      clear hB2 hC2 hB3 hC3 hz
      go_wp2_with fail
      generalize w2.setCell ⟨g, 10, none⟩ (.int .u64 (n : Int)) = w3 at HB3 HC3 g1 k1 ⊢
      have hB : Below w3.heap.size w3 w3.drew := (Below.refl _ _).drew
      refine wpF_begin 14 (w0 := w3) (by kernel_rfl) ?_
      refine fP_ (.inr hB) 0 rfl ⟨_, by intro W; go_simp <;> with_reducible rfl, ?_⟩
      try simp only [Act.put, pA_, pB_, pC_]
      refine fP_ (.inr hB) 1 rfl ⟨_, by intro W; go_simp <;> with_reducible rfl, ?_⟩
      try simp only [Act.put, pA_, pB_, pC_]
      refine fP_ (.inr hB) 2 rfl ⟨_, by intro W; go_simp <;> with_reducible rfl, ?_⟩
      try simp only [Act.put, pA_, pB_, pC_]
      refine fP_ (.inr hB) 3 rfl ⟨_, by intro W; go_simp <;> with_reducible rfl, ?_⟩
      try simp only [Act.put, pA_, pB_, pC_]
      refine fP_ (.inr hB) 4 rfl ⟨_, by intro W; go_simp <;> with_reducible rfl, ?_⟩
      try simp only [Act.put, pA_, pB_, pC_]
      refine fP_ (.inr hB) 5 rfl ⟨_, by intro W; go_simp <;> with_reducible rfl, ?_⟩
      try simp only [Act.put, pA_, pB_, pC_]
      refine fU_ hB 6 rfl ⟨_, by intro W hW; have hcW := cellW22 g1 hW; go_simp <;> with_reducible rfl, ?_⟩
      try simp only [Act.put, pA_, pB_, pC_]
      refine fP_ (.inr hB) 7 rfl ⟨_, by intro W; go_simp <;> with_reducible rfl, ?_⟩
      try simp only [Act.put, pA_, pB_, pC_]
      refine fP_ (.inr hB) 8 rfl ⟨_, by intro W; go_simp <;> with_reducible rfl, ?_⟩
      try simp only [Act.put, pA_, pB_, pC_]
      refine fP_ (.inr hB) 9 rfl ⟨_, by intro W; go_simp <;> with_reducible rfl, ?_⟩
      try simp only [Act.put, pA_, pB_, pC_]
      refine fP_ (.inr hB) 10 rfl ⟨_, by intro W; go_simp <;> with_reducible rfl, ?_⟩
      try simp only [Act.put, pA_, pB_, pC_]
      refine fP_ (.inr hB) 11 rfl ⟨_, by intro W; go_simp <;> with_reducible rfl, ?_⟩
      try simp only [Act.put, pA_, pB_, pC_]
      refine fP_ (.inr hB) 12 rfl ⟨_, by intro W; go_simp <;> with_reducible rfl, ?_⟩
      try simp only [Act.put, pA_, pB_, pC_]
      refine fP_ (.inr hB) 13 rfl ⟨_, by intro W; go_simp <;> with_reducible rfl, ?_⟩
      try simp only [Act.put, pA_, pB_, pC_]
      refine fD_ 14 fun K hK => ?_
      go_simp
      refine hK.out _ _ (.inl rfl) ?_
      clear hK K
      try simp only [Act.put, pA_, pB_, pC_]
      refine wpF_done (by kernel_rfl) ?_
      have hB4 : BlkAt g 80 (wiC f n (a2 ||| 1) b2) (w3.setCell ⟨g, 11, none⟩ (.int .u64 (z : Int))).drew := (by rw [← HZ.out]; exact ((HB3.out.set 11 _).drew) : BlkAt g 80 (wiC f n (a2 ||| 1) b2) (w3.setCell ⟨g, 11, none⟩ (.int .u64 (z : Int))).drew)
      have hC4 := (HC3.out.trans (Chg.of_wrote (Wrote.set g 11 w3 (.int .u64 (z : Int))))).drew
      have HF : Hid (WnP22 g f (l ++ [n]) (w3.setCell ⟨g, 11, none⟩ (.int .u64 (z : Int))).drew) := ⟨_, _, HU.out.1, by rw [HU.out.2]; exact HN.out, by rw [HU.out.2]; exact hB4⟩
      clear hB4
      go_wp2
      go_ret
      exact ⟨rfl, HF.out, hC4⟩
    · have hle : n ≤ tpN l := by omega
      have h128 : tpN l - n < 128 := by omega
      have hmk := hw.mark hle h128
      obtain ⟨d, hd⟩ : ∃ d : Nat, d = tpN l - n := ⟨_, rfl⟩
      have e1 : IntKind.u64.wrap (((tpN l : Nat) : Int) - (n : Int)) = (d : Int) := by rw [IntKind.wrap_u64]; omega
      have d1 : decide (((tpN l : Nat) : Int) < (n : Int)) = false := decide_eq_false (by omega)
      have dN : decide (tpN l < n) = false := decide_eq_false h3
      rw [← hd] at hmk h128
      have hlo := hw.lo
      have hhi := hw.hi
      obtain ⟨t, ht⟩ : ∃ t, t = tpN l := ⟨_, rfl⟩
      have HMk : Hid _ := hmk
      have HTt : Hid (t = tpN l) := ht
      have HTl : Hid (t < 18446744073709551616) := (by rw [ht]; exact hT : t < 18446744073709551616)
      rw [← ht] at hc0 e1 d1 dN hB
      have HB : Hid (BlkAt g 80 (wiC f t a b) w) := hB
      obtain ⟨x, hx⟩ : ∃ x : Nat, x = if d < 64 then a else b := ⟨_, rfl⟩
      obtain ⟨q, hq⟩ : ∃ q : Nat, q = d / 64 := ⟨_, rfl⟩
      obtain ⟨r, hr⟩ : ∃ r : Nat, r = d % 64 := ⟨_, rfl⟩
      obtain ⟨z, hz⟩ : ∃ z : Nat, z = x ||| 2 ^ r := ⟨_, rfl⟩
      have HO : Hid _ := wiC_or f t a b q r d x z h128 hq hr hx hz
      have hx64 : x < 18446744073709551616 := by rw [hx]; split <;> assumption
      have hc : w.cell? ⟨g, 11 + q, none⟩ = some (.int .u64 (x : Int)) := by
        rw [hB.cell, hx]
        rcases Nat.lt_or_ge d 64 with h | h
        · rw [if_pos h, show q = 0 by omega]; rfl
        · rw [if_neg (by omega), show q = 1 by omega]; rfl
      have hf := hB.free (11 + q)
      have q1 : ((d : Nat) : Int).tdiv 64 = (q : Int) := by rw [Int.tdiv_eq_ediv_of_nonneg (by omega)]; omega
      have q2 : ((d : Nat) : Int) / 64 = (q : Int) := by omega
      have r1 : ((d : Nat) : Int).tmod 64 = (r : Int) := by rw [Int.tmod_eq_emod_of_nonneg (by omega)]; omega
      have r2 : ((d : Nat) : Int) % 64 = (r : Int) := by omega
      have hq2 : (q : Int) < 2 := by omega
      have hqN : q < 2 := by omega
      have hr64 : (r : Int) < 64 := by omega
      have hrN : r < 64 := by omega
      have qw : IntKind.u64.wrap (q : Int) = (q : Int) := by rw [IntKind.wrap_u64]; omega
      have rw' : IntKind.u64.wrap (r : Int) = (r : Int) := by rw [IntKind.wrap_u64]; omega
      obtain ⟨y, hy⟩ : ∃ y : Nat, y = 2 ^ r := ⟨_, rfl⟩
      have hy64 : y < 18446744073709551616 := by rw [hy, ← two64]; exact Nat.pow_lt_pow_right (by decide) hrN
      have y1 : IntKind.u64.wrap ((2 : Int) ^ r) = (y : Int) := by
        rw [show ((2 : Int) ^ r) = (y : Int) by rw [hy]; simp, IntKind.wrap_u64]
        omega
      have e4 : bits .or .u64 (x : Int) (y : Int) = (z : Int) := by rw [hz, ← hy]; exact u64_or_nat x y hx64 hy64
      clear hd h128 hlo hhi hmk ht hB hx hq hr hz hx64 hy hy64 hw hT h1 h2 h3 HW hle hn
      go_enter Tryd.func34, Tryd.ntmps34
      go_wp2_with fail
      refine Calls.mono HC.out ?_
      rintro e w1 ⟨rfl, rfl⟩
      go_wp2_with fail
      have hB : Below w1.heap.size w1 w1.drew := (Below.refl _ _).drew
      refine wpF_begin 14 (w0 := w1) (by kernel_rfl) ?_
      refine fP_ (.inr hB) 0 rfl ⟨_, by intro W; go_simp <;> with_reducible rfl, ?_⟩
      try simp only [Act.put, pA_, pB_, pC_]
      refine fP_ (.inr hB) 1 rfl ⟨_, by intro W; go_simp <;> with_reducible rfl, ?_⟩
      try simp only [Act.put, pA_, pB_, pC_]
      refine fP_ (.inr hB) 2 rfl ⟨_, by intro W; go_simp <;> with_reducible rfl, ?_⟩
      try simp only [Act.put, pA_, pB_, pC_]
      refine fP_ (.inr hB) 3 rfl ⟨_, by intro W; go_simp <;> with_reducible rfl, ?_⟩
      try simp only [Act.put, pA_, pB_, pC_]
      refine fP_ (.inr hB) 4 rfl ⟨_, by intro W; go_simp <;> with_reducible rfl, ?_⟩
      try simp only [Act.put, pA_, pB_, pC_]
      refine fP_ (.inr hB) 5 rfl ⟨_, by intro W; go_simp <;> with_reducible rfl, ?_⟩
      try simp only [Act.put, pA_, pB_, pC_]
      refine fU_ hB 6 rfl ⟨_, by intro W hW; have hcW := cellW22 hc hW; go_simp <;> with_reducible rfl, ?_⟩
      try simp only [Act.put, pA_, pB_, pC_]
      refine fP_ (.inr hB) 7 rfl ⟨_, by intro W; go_simp <;> with_reducible rfl, ?_⟩
      try simp only [Act.put, pA_, pB_, pC_]
      refine fP_ (.inr hB) 8 rfl ⟨_, by intro W; go_simp <;> with_reducible rfl, ?_⟩
      try simp only [Act.put, pA_, pB_, pC_]
      refine fP_ (.inr hB) 9 rfl ⟨_, by intro W; go_simp <;> with_reducible rfl, ?_⟩
      try simp only [Act.put, pA_, pB_, pC_]
      refine fP_ (.inr hB) 10 rfl ⟨_, by intro W; go_simp <;> with_reducible rfl, ?_⟩
      try simp only [Act.put, pA_, pB_, pC_]
      refine fP_ (.inr hB) 11 rfl ⟨_, by intro W; go_simp <;> with_reducible rfl, ?_⟩
      try simp only [Act.put, pA_, pB_, pC_]
      refine fP_ (.inr hB) 12 rfl ⟨_, by intro W; go_simp <;> with_reducible rfl, ?_⟩
      try simp only [Act.put, pA_, pB_, pC_]
      refine fP_ (.inr hB) 13 rfl ⟨_, by intro W; go_simp <;> with_reducible rfl, ?_⟩
      try simp only [Act.put, pA_, pB_, pC_]
      refine fD_ 14 fun K hK => ?_
      go_simp
      refine hK.out _ _ (.inl rfl) ?_
      clear hK K
      try simp only [Act.put, pA_, pB_, pC_]
      refine wpF_done (by kernel_rfl) ?_
      have hB4 := (HB.out.set (11 + q) (.int .u64 (z : Int))).drew
      rw [HO.out] at hB4
      have hC4 := ((Chg.refl (fun i => i = g) w1).trans (Chg.of_wrote (Wrote.set g (11 + q) w1 (.int .u64 (z : Int))))).drew
      have HF : Hid (WnP22 g f (l ++ [n]) (w1.setCell ⟨g, 11 + q, none⟩ (.int .u64 (z : Int))).drew) := ⟨_, _, HMk.out.1, by rw [HMk.out.2, ← HTt.out]; exact HTl.out, by rw [HMk.out.2, ← HTt.out]; exact hB4⟩
      clear hB4
      go_wp2
      go_ret
      exact ⟨rfl, HF.out, hC4⟩
end Go.Proofs.YtliiofjcghdjoaaDoor

/- A session in memory, how old it is and how much was sent: contracts of package session, third part. -/
namespace Go.Proofs.YtliiofjcghdjoaaDoor
open Go.ChangeShapes Go.WideShapes Go.ChangeAt Go.RowKit
set_option linter.unusedSimpArgs false
set_option linter.unusedVariables false

/-- A session's cells: rules, the first cipher, the second one's key, the window, birth, how many were sealed. -/
def snC (r : Rl) (v1 v2 : Value) (n T a b born sent : Nat) : List Value := [.int .u64 (r.retry : Int), .int .u64 (r.rmax : Int), .int .i64 r.tries, .int .u64 (r.rekey : Int), .int .u64 (r.expire : Int), .int .u64 (r.rcount : Int), .int .u64 (r.ecount : Int), v1, .int .u64 (n : Int), v2, .int .u64 (T : Int), .int .u64 (a : Int), .int .u64 (b : Int), .int .u64 (born : Int), .int .u64 (sent : Int)]
theorem snC_no8 (r : Rl) (a1 a2 : Option Addr) (l1 c1 l2 c2 n T a b born sent : Nat) : No8 (snC r (.slice a1 l1 c1) (.slice a2 l2 c2) n T a b born sent) := No8.of_slices (by
  intro v hv x
  simp only [snC, List.mem_cons, List.not_mem_nil, or_false] at hv
  rcases hv with rfl | rfl | rfl | rfl | rfl | rfl | rfl | rfl | rfl | rfl | rfl | rfl | rfl | rfl | rfl <;> simp)
/-- A session in block g. -/
structure SnP (g : Nat) (r : Rl) (s : Ses) (w : World) : Prop where
  ok : SesW s
  mem : ∃ a1 c1 a2 c2 a b, Wn s.came a b ∧ tpN s.came < 18446744073709551616 ∧ BlkAt g 80 (snC r (.slice a1 s.snd.key.length c1) (.slice a2 s.rcv.key.length c2) s.snd.n (tpN s.came) a b s.born s.sent) w ∧ Rd w (.slice a1 s.snd.key.length c1) s.snd.key ∧ Rd w (.slice a2 s.rcv.key.length c2) s.rcv.key
theorem SnP.kept {g : Nat} {r : Rl} {s : Ses} {w w' : World} (h : SnP g r s w) (hb : Below w.heap.size w w') : SnP g r s w' := by
  obtain ⟨a1, c1, a2, c2, a, b, h1, h2, h3, h4, h5⟩ := h.mem
  exact ⟨h.ok, a1, c1, a2, c2, a, b, h1, h2, h3.kept hb, h4.kept hb, h5.kept hb⟩
theorem SnP.lt {g : Nat} {r : Rl} {s : Ses} {w : World} (h : SnP g r s w) : g < w.heap.size := by
  obtain ⟨a1, c1, a2, c2, a, b, h1, h2, h3, h4, h5⟩ := h.mem
  exact h3.lt
/-- What its rules and numbers are, in any later world. -/
theorem SnP.cells {g : Nat} {r : Rl} {s : Ses} {w : World} (h : SnP g r s w) (W : World) (hW : Below w.heap.size w W) : W.cell? ⟨g, 3, none⟩ = some (.int .u64 (r.rekey : Int)) ∧ W.cell? ⟨g, 4, none⟩ = some (.int .u64 (r.expire : Int)) ∧ W.cell? ⟨g, 5, none⟩ = some (.int .u64 (r.rcount : Int)) ∧ W.cell? ⟨g, 6, none⟩ = some (.int .u64 (r.ecount : Int)) ∧ W.cell? ⟨g, 8, none⟩ = some (.int .u64 (s.snd.n : Int)) ∧ W.cell? ⟨g, 13, none⟩ = some (.int .u64 (s.born : Int)) ∧ W.cell? ⟨g, 14, none⟩ = some (.int .u64 (s.sent : Int)) := by
  obtain ⟨a1, c1, a2, c2, a, b, h1, h2, h3, h4, h5⟩ := h.mem
  have h6 := h3.kept hW
  exact ⟨h6.cell 3, h6.cell 4, h6.cell 5, h6.cell 6, h6.cell 8, h6.cell 13, h6.cell 14⟩

set_option maxHeartbeats 1000000 in
theorem csent_any (g : Nat) (r : Rl) (s : Ses) (w : World) (h : SnP g r s w) :
    Calls Tryd.prog 21 #[.pointer (some ⟨g, 0, none⟩)] w fun e w' => e = .returned (.int .u64 (s.sent : Int)) ∧ w' = w := by
  obtain ⟨-, -, -, -, -, -, c⟩ := h.cells w (Below.refl _ _)
  clear h
  go_enter Tryd.func21, Tryd.ntmps21
  go_wp2
  go_ret
  exact ⟨rfl, rfl⟩

set_option maxRecDepth 100000 in
set_option maxHeartbeats 4000000 in
theorem cold_any (g : Nat) (r : Rl) (s : Ses) (now : Nat) (hn : now < 18446744073709551616) (w : World) (h : SnP g r s w) :
    Calls Tryd.prog 31 #[.pointer (some ⟨g, 0, none⟩), .int .u64 (now : Int)] w fun e w' => e = .returned (.bool (decide (r.expire ≤ snN s.born now))) ∧ Below w.heap.size w w' := by
  have HN : Hid (now < 18446744073709551616 ∧ s.born < 18446744073709551616) := ⟨hn, h.ok.born⟩
  obtain ⟨x, hx⟩ : ∃ x, x = snN s.born now := ⟨_, rfl⟩
  obtain ⟨y, hy⟩ : ∃ y, y = r.expire := ⟨_, rfl⟩
  obtain ⟨bo, hbo⟩ : ∃ y, y = s.born := ⟨_, rfl⟩
  have HX : Hid (x = snN bo now) := (by rw [hbo]; exact hx : x = snN bo now)
  rw [← hx, ← hy]
  rw [← hbo] at HN
  have HC1 : Hid (∀ W, Below w.drew.heap.size w.drew W → W.cell? ⟨g, 13, none⟩ = some (.int .u64 (bo : Int)) ∧ W.cell? ⟨g, 4, none⟩ = some (.int .u64 (y : Int))) := fun W hW => by
    obtain ⟨c3, c4, c5, c6, c8, c13, c14⟩ := h.cells W (stepB (Below.refl _ w).drew hW)
    rw [hbo, hy]
    exact ⟨c13, c4⟩
  obtain ⟨G, hG⟩ : ∃ G, G = decide (y ≤ x) := ⟨_, rfl⟩
  rw [← hG]
  have dI : decide ((y : Int) ≤ (x : Int)) = G := by rw [hG]; exact decide_eq_decide.2 (by omega)
  have dN : decide (y ≤ x) = G := hG.symm
  clear hx hy hbo hG hn h
  go_enter Tryd.func31, Tryd.ntmps31
  go_wp2_with fail
  refine wpG_begin (by kernel_rfl) ?_
  refine gU_ 0 rfl ⟨_, by intro W hW; go_simp <;> with_reducible rfl, ?_⟩
  try simp only [Act.put, pA_, pB_, pC_]
  refine gU_ 1 rfl ⟨_, by intro W hW; go_simp <;> with_reducible rfl, ?_⟩
  try simp only [Act.put, pA_, pB_, pC_]
  refine gU_ 2 rfl ⟨_, by intro W hW; go_simp <;> with_reducible rfl, ?_⟩
  try simp only [Act.put, pA_, pB_, pC_]
  refine gU_ 3 rfl ⟨_, by intro W hW; have cW := (HC1.out W hW).1; go_simp <;> with_reducible rfl, ?_⟩
  try simp only [Act.put, pA_, pB_, pC_]
  refine gU_ 4 rfl ⟨_, by intro W hW; go_simp <;> with_reducible rfl, ?_⟩
  try simp only [Act.put, pA_, pB_, pC_]
  refine gU_ 6 rfl ⟨_, by intro W hW; go_simp <;> with_reducible rfl, ?_⟩
  try simp only [Act.put, pA_, pB_, pC_]
  refine gU_ 7 rfl ⟨_, by intro W hW; go_simp <;> with_reducible rfl, ?_⟩
  try simp only [Act.put, pA_, pB_, pC_]
  refine gU_ 8 rfl ⟨_, by intro W hW; go_simp <;> with_reducible rfl, ?_⟩
  try simp only [Act.put, pA_, pB_, pC_]
  refine gU_ 9 rfl ⟨_, by intro W hW; go_simp <;> with_reducible rfl, ?_⟩
  try simp only [Act.put, pA_, pB_, pC_]
  refine gU_ 10 rfl ⟨_, by intro W hW; have cW := (HC1.out W hW).2; go_simp <;> with_reducible rfl, ?_⟩
  try simp only [Act.put, pA_, pB_, pC_]
  refine gD_ 5 fun K hK => ?_
  go_simp
  refine (csince_any bo now HN.out.2 HN.out.1 _).mono ?_
  rintro e wa ⟨rfl, rfl⟩
  rw [← HX.out]
  refine hK.out _ _ (Below.refl _ _) ?_
  clear hK K
  try simp only [Act.put, pA_, pB_, pC_]
  refine gU_ 11 rfl ⟨_, by intro W hW; go_simp <;> with_reducible rfl, ?_⟩
  try simp only [Act.put, pA_, pB_, pC_]
  refine gU_ 12 rfl ⟨_, by intro W hW; go_simp <;> with_reducible rfl, ?_⟩
  try simp only [Act.put, pA_, pB_, pC_]
  refine wpG_done (by kernel_rfl) ?_
  go_wp2
  go_ret
  exact ⟨rfl, (Below.refl _ w).drew⟩

set_option maxRecDepth 100000 in
set_option maxHeartbeats 4000000 in
theorem cexpired_any (g : Nat) (r : Rl) (s : Ses) (now : Nat) (hn : now < 18446744073709551616) (w : World) (h : SnP g r s w) :
    Calls Tryd.prog 24 #[.pointer (some ⟨g, 0, none⟩), .int .u64 (now : Int)] w fun e w' => e = .returned (.bool (exB r s now)) ∧ Below w.heap.size w w' := by
  have HD : Hid (exB r s now = (decide (r.expire ≤ snN s.born now) || decide (r.ecount ≤ s.sent))) := rfl
  obtain ⟨G, hG⟩ : ∃ G, G = exB r s now := ⟨_, rfl⟩
  rw [← hG] at HD ⊢
  have HO : Hid (∀ W, Below w.drew.heap.size w.drew W → Calls Tryd.prog 31 #[.pointer (some ⟨g, 0, none⟩), .int .u64 (now : Int)] W fun e w' => e = .returned (.bool (decide (r.expire ≤ snN s.born now))) ∧ Below W.heap.size W w') := fun W hW => cold_any g r s now hn W (h.kept (stepB (Below.refl _ w).drew hW))
  obtain ⟨q, hq⟩ : ∃ q, q = decide (r.expire ≤ snN s.born now) := ⟨_, rfl⟩
  rw [← hq] at HD HO
  obtain ⟨sn, hsn⟩ : ∃ y, y = s.sent := ⟨_, rfl⟩
  obtain ⟨ct, hct⟩ : ∃ y, y = r.ecount := ⟨_, rfl⟩
  rw [← hsn, ← hct] at HD
  have HC1 : Hid (∀ W, Below w.drew.heap.size w.drew W → W.cell? ⟨g, 14, none⟩ = some (.int .u64 (sn : Int)) ∧ W.cell? ⟨g, 6, none⟩ = some (.int .u64 (ct : Int))) := fun W hW => by
    obtain ⟨c3, c4, c5, c6, c8, c13, c14⟩ := h.cells W (stepB (Below.refl _ w).drew hW)
    rw [hsn, hct]
    exact ⟨c14, c6⟩
  clear hG hq hsn hct h hn
  cases q
  · have eI : decide ((ct : Int) ≤ (sn : Int)) = G := by rw [HD.out, Bool.false_or]; exact decide_eq_decide.2 (by omega)
    have eN : decide (ct ≤ sn) = G := by rw [HD.out]; rfl
    clear HD
    go_enter Tryd.func24, Tryd.ntmps24
    go_wp2_with fail
    refine wpG_begin (by kernel_rfl) ?_
    refine gU_ 0 rfl ⟨_, by intro W hW; go_simp <;> with_reducible rfl, ?_⟩
    try simp only [Act.put, pA_, pB_, pC_]
    refine gU_ 1 rfl ⟨_, by intro W hW; go_simp <;> with_reducible rfl, ?_⟩
    try simp only [Act.put, pA_, pB_, pC_]
    refine gU_ 2 rfl ⟨_, by intro W hW; go_simp <;> with_reducible rfl, ?_⟩
    try simp only [Act.put, pA_, pB_, pC_]
    refine gU_ 3 rfl ⟨_, by intro W hW; go_simp <;> with_reducible rfl, ?_⟩
    try simp only [Act.put, pA_, pB_, pC_]
    refine gU_ 4 rfl ⟨_, by intro W hW; go_simp <;> with_reducible rfl, ?_⟩
    try simp only [Act.put, pA_, pB_, pC_]
    refine gD_ 5 fun K hK => ?_
    go_simp
    refine (HO.out _ (Below.refl _ _)).mono ?_
    rintro e wa ⟨rfl, ba⟩
    refine hK.out _ _ ba ?_
    clear hK K
    try simp only [Act.put, pA_, pB_, pC_]
    refine gU_ 6 rfl ⟨_, by intro W hW; go_simp <;> with_reducible rfl, ?_⟩
    try simp only [Act.put, pA_, pB_, pC_]
    refine gU_ 7 rfl ⟨_, by intro W hW; go_simp <;> with_reducible rfl, ?_⟩
    try simp only [Act.put, pA_, pB_, pC_]
    refine gU_ 8 rfl ⟨_, by intro W hW; go_simp <;> with_reducible rfl, ?_⟩
    try simp only [Act.put, pA_, pB_, pC_]
    refine gU_ 9 rfl ⟨_, by intro W hW; go_simp <;> with_reducible rfl, ?_⟩
    try simp only [Act.put, pA_, pB_, pC_]
    refine gU_ 10 rfl ⟨_, by intro W hW; go_simp <;> with_reducible rfl, ?_⟩
    try simp only [Act.put, pA_, pB_, pC_]
    refine gU_ 11 rfl ⟨_, by intro W hW; have cW := (HC1.out W (stepB ba hW)).1; go_simp <;> with_reducible rfl, ?_⟩
    try simp only [Act.put, pA_, pB_, pC_]
    refine gU_ 12 rfl ⟨_, by intro W hW; go_simp <;> with_reducible rfl, ?_⟩
    try simp only [Act.put, pA_, pB_, pC_]
    refine gU_ 13 rfl ⟨_, by intro W hW; go_simp <;> with_reducible rfl, ?_⟩
    try simp only [Act.put, pA_, pB_, pC_]
    refine gU_ 14 rfl ⟨_, by intro W hW; go_simp <;> with_reducible rfl, ?_⟩
    try simp only [Act.put, pA_, pB_, pC_]
    refine gU_ 15 rfl ⟨_, by intro W hW; go_simp <;> with_reducible rfl, ?_⟩
    try simp only [Act.put, pA_, pB_, pC_]
    refine gU_ 16 rfl ⟨_, by intro W hW; have cW := (HC1.out W (stepB ba hW)).2; go_simp <;> with_reducible rfl, ?_⟩
    try simp only [Act.put, pA_, pB_, pC_]
    refine gU_ 17 rfl ⟨_, by intro W hW; go_simp <;> with_reducible rfl, ?_⟩
    try simp only [Act.put, pA_, pB_, pC_]
    refine gU_ 18 rfl ⟨_, by intro W hW; go_simp <;> with_reducible rfl, ?_⟩
    try simp only [Act.put, pA_, pB_, pC_]
    refine gU_ 19 rfl ⟨_, by intro W hW; go_simp <;> with_reducible rfl, ?_⟩
    try simp only [Act.put, pA_, pB_, pC_]
    refine wpG_done (by kernel_rfl) ?_
    have HBa : Hid (Below w.heap.size w wa) := stepB (Below.refl _ w).drew ba
    clear ba HC1 HO
    go_wp2
    go_ret
    exact ⟨rfl, HBa.out⟩
  · have hG : G = true := HD.out
    subst hG
    clear HD
    go_enter Tryd.func24, Tryd.ntmps24
    go_wp2_with fail
    refine wpG_begin (by kernel_rfl) ?_
    refine gU_ 0 rfl ⟨_, by intro W hW; go_simp <;> with_reducible rfl, ?_⟩
    try simp only [Act.put, pA_, pB_, pC_]
    refine gU_ 1 rfl ⟨_, by intro W hW; go_simp <;> with_reducible rfl, ?_⟩
    try simp only [Act.put, pA_, pB_, pC_]
    refine gU_ 2 rfl ⟨_, by intro W hW; go_simp <;> with_reducible rfl, ?_⟩
    try simp only [Act.put, pA_, pB_, pC_]
    refine gU_ 3 rfl ⟨_, by intro W hW; go_simp <;> with_reducible rfl, ?_⟩
    try simp only [Act.put, pA_, pB_, pC_]
    refine gU_ 4 rfl ⟨_, by intro W hW; go_simp <;> with_reducible rfl, ?_⟩
    try simp only [Act.put, pA_, pB_, pC_]
    refine gD_ 5 fun K hK => ?_
    go_simp
    refine (HO.out _ (Below.refl _ _)).mono ?_
    rintro e wa ⟨rfl, ba⟩
    refine hK.out _ _ ba ?_
    clear hK K
    try simp only [Act.put, pA_, pB_, pC_]
    refine gU_ 6 rfl ⟨_, by intro W hW; go_simp <;> with_reducible rfl, ?_⟩
    try simp only [Act.put, pA_, pB_, pC_]
    refine gU_ 7 rfl ⟨_, by intro W hW; go_simp <;> with_reducible rfl, ?_⟩
    try simp only [Act.put, pA_, pB_, pC_]
    refine wpG_skip (i := 8) (nA rfl) (by kernel_rfl) (by kernel_rfl) (by kernel_rfl) (by rfl) ?_
    try simp only [Act.put, pA_, pB_, pC_]
    refine wpG_skip (i := 9) (nA rfl) (by kernel_rfl) (by kernel_rfl) (by kernel_rfl) (by rfl) ?_
    try simp only [Act.put, pA_, pB_, pC_]
    refine wpG_skip (i := 10) (nA rfl) (by kernel_rfl) (by kernel_rfl) (by kernel_rfl) (by rfl) ?_
    try simp only [Act.put, pA_, pB_, pC_]
    refine wpG_skip (i := 11) (nA rfl) (by kernel_rfl) (by kernel_rfl) (by kernel_rfl) (by rfl) ?_
    try simp only [Act.put, pA_, pB_, pC_]
    refine wpG_skip (i := 12) (nA rfl) (by kernel_rfl) (by kernel_rfl) (by kernel_rfl) (by rfl) ?_
    try simp only [Act.put, pA_, pB_, pC_]
    refine wpG_skip (i := 13) (nA rfl) (by kernel_rfl) (by kernel_rfl) (by kernel_rfl) (by rfl) ?_
    try simp only [Act.put, pA_, pB_, pC_]
    refine wpG_skip (i := 14) (nA rfl) (by kernel_rfl) (by kernel_rfl) (by kernel_rfl) (by rfl) ?_
    try simp only [Act.put, pA_, pB_, pC_]
    refine wpG_skip (i := 15) (nA rfl) (by kernel_rfl) (by kernel_rfl) (by kernel_rfl) (by rfl) ?_
    try simp only [Act.put, pA_, pB_, pC_]
    refine wpG_skip (i := 16) (nA rfl) (by kernel_rfl) (by kernel_rfl) (by kernel_rfl) (by rfl) ?_
    try simp only [Act.put, pA_, pB_, pC_]
    refine wpG_skip (i := 17) (nA rfl) (by kernel_rfl) (by kernel_rfl) (by kernel_rfl) (by rfl) ?_
    try simp only [Act.put, pA_, pB_, pC_]
    refine gU_ 18 rfl ⟨_, by intro W hW; go_simp <;> with_reducible rfl, ?_⟩
    try simp only [Act.put, pA_, pB_, pC_]
    refine gU_ 19 rfl ⟨_, by intro W hW; go_simp <;> with_reducible rfl, ?_⟩
    try simp only [Act.put, pA_, pB_, pC_]
    refine wpG_done (by kernel_rfl) ?_
    have HBa : Hid (Below w.heap.size w wa) := stepB (Below.refl _ w).drew ba
    clear ba HC1 HO
    go_wp2
    go_ret
    exact ⟨rfl, HBa.out⟩

set_option maxRecDepth 100000 in
set_option maxHeartbeats 4000000 in
theorem crekey_any (g : Nat) (r : Rl) (s : Ses) (now : Nat) (hn : now < 18446744073709551616) (w : World) (h : SnP g r s w) :
    Calls Tryd.prog 22 #[.pointer (some ⟨g, 0, none⟩), .int .u64 (now : Int)] w fun e w' => e = .returned (.bool (rkB r s now)) ∧ Below w.heap.size w w' := by
  have HD : Hid (rkB r s now = (decide (r.rekey ≤ snN s.born now) || decide (r.rcount ≤ s.sent))) := rfl
  obtain ⟨G, hG⟩ : ∃ G, G = rkB r s now := ⟨_, rfl⟩
  rw [← hG] at HD ⊢
  have HN : Hid (now < 18446744073709551616 ∧ s.born < 18446744073709551616) := ⟨hn, h.ok.born⟩
  obtain ⟨x, hx⟩ : ∃ x, x = snN s.born now := ⟨_, rfl⟩
  obtain ⟨y, hy⟩ : ∃ y, y = r.rekey := ⟨_, rfl⟩
  obtain ⟨bo, hbo⟩ : ∃ y, y = s.born := ⟨_, rfl⟩
  obtain ⟨sn, hsn⟩ : ∃ y, y = s.sent := ⟨_, rfl⟩
  obtain ⟨ct, hct⟩ : ∃ y, y = r.rcount := ⟨_, rfl⟩
  have HX : Hid (x = snN bo now) := (by rw [hbo]; exact hx : x = snN bo now)
  rw [← hx, ← hy, ← hsn, ← hct] at HD
  rw [← hbo] at HN
  have HC1 : Hid (∀ W, Below w.drew.heap.size w.drew W → W.cell? ⟨g, 13, none⟩ = some (.int .u64 (bo : Int)) ∧ W.cell? ⟨g, 3, none⟩ = some (.int .u64 (y : Int)) ∧ W.cell? ⟨g, 14, none⟩ = some (.int .u64 (sn : Int)) ∧ W.cell? ⟨g, 5, none⟩ = some (.int .u64 (ct : Int))) := fun W hW => by
    obtain ⟨c3, c4, c5, c6, c8, c13, c14⟩ := h.cells W (stepB (Below.refl _ w).drew hW)
    rw [hbo, hy, hsn, hct]
    exact ⟨c13, c3, c14, c5⟩
  clear hx hy hbo hG hn h hsn hct
  by_cases h : y ≤ x
  · have dI : decide ((y : Int) ≤ (x : Int)) = true := decide_eq_true (by omega)
    have dN : decide (y ≤ x) = true := decide_eq_true h
    have hG : G = true := by rw [HD.out, dN]; rfl
    subst hG
    clear HD
    go_enter Tryd.func22, Tryd.ntmps22
    go_wp2_with fail
    refine wpG_begin (by kernel_rfl) ?_
    refine gU_ 0 rfl ⟨_, by intro W hW; go_simp <;> with_reducible rfl, ?_⟩
    try simp only [Act.put, pA_, pB_, pC_]
    refine gU_ 1 rfl ⟨_, by intro W hW; go_simp <;> with_reducible rfl, ?_⟩
    try simp only [Act.put, pA_, pB_, pC_]
    refine gU_ 2 rfl ⟨_, by intro W hW; go_simp <;> with_reducible rfl, ?_⟩
    try simp only [Act.put, pA_, pB_, pC_]
    refine gU_ 3 rfl ⟨_, by intro W hW; go_simp <;> with_reducible rfl, ?_⟩
    try simp only [Act.put, pA_, pB_, pC_]
    refine gU_ 4 rfl ⟨_, by intro W hW; go_simp <;> with_reducible rfl, ?_⟩
    try simp only [Act.put, pA_, pB_, pC_]
    refine gU_ 5 rfl ⟨_, by intro W hW; go_simp <;> with_reducible rfl, ?_⟩
    try simp only [Act.put, pA_, pB_, pC_]
    refine gU_ 6 rfl ⟨_, by intro W hW; have cW := (HC1.out W hW).1; go_simp <;> with_reducible rfl, ?_⟩
    try simp only [Act.put, pA_, pB_, pC_]
    refine gU_ 7 rfl ⟨_, by intro W hW; go_simp <;> with_reducible rfl, ?_⟩
    try simp only [Act.put, pA_, pB_, pC_]
    refine gU_ 9 rfl ⟨_, by intro W hW; go_simp <;> with_reducible rfl, ?_⟩
    try simp only [Act.put, pA_, pB_, pC_]
    refine gU_ 10 rfl ⟨_, by intro W hW; go_simp <;> with_reducible rfl, ?_⟩
    try simp only [Act.put, pA_, pB_, pC_]
    refine gU_ 11 rfl ⟨_, by intro W hW; go_simp <;> with_reducible rfl, ?_⟩
    try simp only [Act.put, pA_, pB_, pC_]
    refine gU_ 12 rfl ⟨_, by intro W hW; go_simp <;> with_reducible rfl, ?_⟩
    try simp only [Act.put, pA_, pB_, pC_]
    refine gU_ 13 rfl ⟨_, by intro W hW; have cW := (HC1.out W hW).2.1; go_simp <;> with_reducible rfl, ?_⟩
    try simp only [Act.put, pA_, pB_, pC_]
    refine gD_ 8 fun K hK => ?_
    go_simp
    refine (csince_any bo now HN.out.2 HN.out.1 _).mono ?_
    rintro e wa ⟨rfl, rfl⟩
    rw [← HX.out]
    refine hK.out _ _ (Below.refl _ _) ?_
    clear hK K
    try simp only [Act.put, pA_, pB_, pC_]
    refine gU_ 14 rfl ⟨_, by intro W hW; go_simp <;> with_reducible rfl, ?_⟩
    try simp only [Act.put, pA_, pB_, pC_]
    refine gU_ 15 rfl ⟨_, by intro W hW; go_simp <;> with_reducible rfl, ?_⟩
    try simp only [Act.put, pA_, pB_, pC_]
    refine gU_ 16 rfl ⟨_, by intro W hW; go_simp <;> with_reducible rfl, ?_⟩
    try simp only [Act.put, pA_, pB_, pC_]
    refine wpG_skip (i := 17) (nA rfl) (by kernel_rfl) (by kernel_rfl) (by kernel_rfl) (by rfl) ?_
    try simp only [Act.put, pA_, pB_, pC_]
    refine wpG_skip (i := 18) (nA rfl) (by kernel_rfl) (by kernel_rfl) (by kernel_rfl) (by rfl) ?_
    try simp only [Act.put, pA_, pB_, pC_]
    refine wpG_skip (i := 19) (nA rfl) (by kernel_rfl) (by kernel_rfl) (by kernel_rfl) (by rfl) ?_
    try simp only [Act.put, pA_, pB_, pC_]
    refine wpG_skip (i := 20) (nA rfl) (by kernel_rfl) (by kernel_rfl) (by kernel_rfl) (by rfl) ?_
    try simp only [Act.put, pA_, pB_, pC_]
    refine wpG_skip (i := 21) (nA rfl) (by kernel_rfl) (by kernel_rfl) (by kernel_rfl) (by rfl) ?_
    try simp only [Act.put, pA_, pB_, pC_]
    refine wpG_skip (i := 22) (nA rfl) (by kernel_rfl) (by kernel_rfl) (by kernel_rfl) (by rfl) ?_
    try simp only [Act.put, pA_, pB_, pC_]
    refine wpG_skip (i := 23) (nA rfl) (by kernel_rfl) (by kernel_rfl) (by kernel_rfl) (by rfl) ?_
    try simp only [Act.put, pA_, pB_, pC_]
    refine wpG_skip (i := 24) (nA rfl) (by kernel_rfl) (by kernel_rfl) (by kernel_rfl) (by rfl) ?_
    try simp only [Act.put, pA_, pB_, pC_]
    refine wpG_skip (i := 25) (nA rfl) (by kernel_rfl) (by kernel_rfl) (by kernel_rfl) (by rfl) ?_
    try simp only [Act.put, pA_, pB_, pC_]
    refine wpG_skip (i := 26) (nA rfl) (by kernel_rfl) (by kernel_rfl) (by kernel_rfl) (by rfl) ?_
    try simp only [Act.put, pA_, pB_, pC_]
    refine gU_ 27 rfl ⟨_, by intro W hW; go_simp <;> with_reducible rfl, ?_⟩
    try simp only [Act.put, pA_, pB_, pC_]
    refine gU_ 28 rfl ⟨_, by intro W hW; go_simp <;> with_reducible rfl, ?_⟩
    try simp only [Act.put, pA_, pB_, pC_]
    refine wpG_done (by kernel_rfl) ?_
    go_wp2
    go_ret
    exact ⟨rfl, (Below.refl _ w).drew⟩
  · have dI : decide ((y : Int) ≤ (x : Int)) = false := decide_eq_false (by omega)
    have dN : decide (y ≤ x) = false := decide_eq_false h
    have eI : decide ((ct : Int) ≤ (sn : Int)) = G := by rw [HD.out, dN, Bool.false_or]; exact decide_eq_decide.2 (by omega)
    have eN : decide (ct ≤ sn) = G := by rw [HD.out, dN]; rfl
    clear HD
    go_enter Tryd.func22, Tryd.ntmps22
    go_wp2_with fail
    refine wpG_begin (by kernel_rfl) ?_
    refine gU_ 0 rfl ⟨_, by intro W hW; go_simp <;> with_reducible rfl, ?_⟩
    try simp only [Act.put, pA_, pB_, pC_]
    refine gU_ 1 rfl ⟨_, by intro W hW; go_simp <;> with_reducible rfl, ?_⟩
    try simp only [Act.put, pA_, pB_, pC_]
    refine gU_ 2 rfl ⟨_, by intro W hW; go_simp <;> with_reducible rfl, ?_⟩
    try simp only [Act.put, pA_, pB_, pC_]
    refine gU_ 3 rfl ⟨_, by intro W hW; go_simp <;> with_reducible rfl, ?_⟩
    try simp only [Act.put, pA_, pB_, pC_]
    refine gU_ 4 rfl ⟨_, by intro W hW; go_simp <;> with_reducible rfl, ?_⟩
    try simp only [Act.put, pA_, pB_, pC_]
    refine gU_ 5 rfl ⟨_, by intro W hW; go_simp <;> with_reducible rfl, ?_⟩
    try simp only [Act.put, pA_, pB_, pC_]
    refine gU_ 6 rfl ⟨_, by intro W hW; have cW := (HC1.out W hW).1; go_simp <;> with_reducible rfl, ?_⟩
    try simp only [Act.put, pA_, pB_, pC_]
    refine gU_ 7 rfl ⟨_, by intro W hW; go_simp <;> with_reducible rfl, ?_⟩
    try simp only [Act.put, pA_, pB_, pC_]
    refine gU_ 9 rfl ⟨_, by intro W hW; go_simp <;> with_reducible rfl, ?_⟩
    try simp only [Act.put, pA_, pB_, pC_]
    refine gU_ 10 rfl ⟨_, by intro W hW; go_simp <;> with_reducible rfl, ?_⟩
    try simp only [Act.put, pA_, pB_, pC_]
    refine gU_ 11 rfl ⟨_, by intro W hW; go_simp <;> with_reducible rfl, ?_⟩
    try simp only [Act.put, pA_, pB_, pC_]
    refine gU_ 12 rfl ⟨_, by intro W hW; go_simp <;> with_reducible rfl, ?_⟩
    try simp only [Act.put, pA_, pB_, pC_]
    refine gU_ 13 rfl ⟨_, by intro W hW; have cW := (HC1.out W hW).2.1; go_simp <;> with_reducible rfl, ?_⟩
    try simp only [Act.put, pA_, pB_, pC_]
    refine gD_ 8 fun K hK => ?_
    go_simp
    refine (csince_any bo now HN.out.2 HN.out.1 _).mono ?_
    rintro e wa ⟨rfl, rfl⟩
    rw [← HX.out]
    refine hK.out _ _ (Below.refl _ _) ?_
    clear hK K
    try simp only [Act.put, pA_, pB_, pC_]
    refine gU_ 14 rfl ⟨_, by intro W hW; go_simp <;> with_reducible rfl, ?_⟩
    try simp only [Act.put, pA_, pB_, pC_]
    refine gU_ 15 rfl ⟨_, by intro W hW; go_simp <;> with_reducible rfl, ?_⟩
    try simp only [Act.put, pA_, pB_, pC_]
    refine gU_ 16 rfl ⟨_, by intro W hW; go_simp <;> with_reducible rfl, ?_⟩
    try simp only [Act.put, pA_, pB_, pC_]
    refine gU_ 17 rfl ⟨_, by intro W hW; go_simp <;> with_reducible rfl, ?_⟩
    try simp only [Act.put, pA_, pB_, pC_]
    refine gU_ 18 rfl ⟨_, by intro W hW; go_simp <;> with_reducible rfl, ?_⟩
    try simp only [Act.put, pA_, pB_, pC_]
    refine gU_ 19 rfl ⟨_, by intro W hW; go_simp <;> with_reducible rfl, ?_⟩
    try simp only [Act.put, pA_, pB_, pC_]
    refine gU_ 20 rfl ⟨_, by intro W hW; have cW := (HC1.out W hW).2.2.1; go_simp <;> with_reducible rfl, ?_⟩
    try simp only [Act.put, pA_, pB_, pC_]
    refine gU_ 21 rfl ⟨_, by intro W hW; go_simp <;> with_reducible rfl, ?_⟩
    try simp only [Act.put, pA_, pB_, pC_]
    refine gU_ 22 rfl ⟨_, by intro W hW; go_simp <;> with_reducible rfl, ?_⟩
    try simp only [Act.put, pA_, pB_, pC_]
    refine gU_ 23 rfl ⟨_, by intro W hW; go_simp <;> with_reducible rfl, ?_⟩
    try simp only [Act.put, pA_, pB_, pC_]
    refine gU_ 24 rfl ⟨_, by intro W hW; go_simp <;> with_reducible rfl, ?_⟩
    try simp only [Act.put, pA_, pB_, pC_]
    refine gU_ 25 rfl ⟨_, by intro W hW; have cW := (HC1.out W hW).2.2.2; go_simp <;> with_reducible rfl, ?_⟩
    try simp only [Act.put, pA_, pB_, pC_]
    refine gU_ 26 rfl ⟨_, by intro W hW; go_simp <;> with_reducible rfl, ?_⟩
    try simp only [Act.put, pA_, pB_, pC_]
    refine gU_ 27 rfl ⟨_, by intro W hW; go_simp <;> with_reducible rfl, ?_⟩
    try simp only [Act.put, pA_, pB_, pC_]
    refine gU_ 28 rfl ⟨_, by intro W hW; go_simp <;> with_reducible rfl, ?_⟩
    try simp only [Act.put, pA_, pB_, pC_]
    refine wpG_done (by kernel_rfl) ?_
    go_wp2
    go_ret
    exact ⟨rfl, (Below.refl _ w).drew⟩
end Go.Proofs.YtliiofjcghdjoaaDoor

/- A session that begins: contracts of package session, fourth part. -/
namespace Go.Proofs.YtliiofjcghdjoaaDoor
open Go.ChangeShapes Go.WideShapes Go.ChangeAt Go.RowKit
set_option linter.unusedSimpArgs false
set_option linter.unusedVariables false

theorem build_by0 (w : World) : (Instr.buildSlice 40 0 #[]).run Tryd.prog w = .ok (.slice (some ⟨w.heap.size, 0, none⟩) 0 0) (w.alloc (.cells #[] 5)) := by kernel_rfl
/-- Bytes, none of them. -/
theorem wpList_build0b {P : Program} {ops : Array Oper} {rest : List Oper} {op : Oper} {a : Act} {w : World} {Q : Exit → Act → World → Prop} (hgd : op.guard = none) (t : TypeId) (ho : op.op = .buildSlice t 0 #[]) (e : TypeId)
    (hrun : (Instr.buildSlice t 0 #[]).run P w = .ok (.slice (some ⟨w.heap.size, 0, none⟩) 0 0) (w.alloc (.cells #[] e)))
    (h : ∀ w', Own e w [(.slice (some ⟨w.heap.size, 0, none⟩) 0 0, [])] w' → wpList P ops Q rest (a.put op.dst (.slice (some ⟨w.heap.size, 0, none⟩) 0 0)) w') : wpList P ops Q (op :: rest) a w := by
  refine wpList_plain hgd fun K hK => ?_
  unfold Oper.wp execOp
  simp only [ho, List.map_toArray, List.map_nil, Sem.run_bind, hrun, Result.andThen_ok, Sem.run_pure]
  refine hK _ _ (h _ ?_)
  refine (Own.start e w).new ⟨⟨rfl, .inr ⟨w.heap.size, 0, #[], rfl, Nat.le_refl _, ?_, Nat.le_refl _, by simp [maxLen], rfl, rfl⟩⟩, growB _⟩
  show (w.heap.push _)[w.heap.size]? = _
  simp
theorem Own.first22 {e : TypeId} {w0 w : World} {v : Value} {l : List UInt8} {L : List (Value × List UInt8)} (h : Own e w0 ((v, l) :: L) w) : New e w0 v l w := ⟨h.rows _ (List.mem_cons_self ..), h.below⟩

set_option maxRecDepth 100000 in
set_option maxHeartbeats 4000000 in
theorem bclone_any (v : Value) (l : List UInt8) (hl : l.length ≤ 1000000) (w : World) (hr : Rd w v l) :
    Calls Tryd.prog 28 #[v] w fun e w' => ∃ x, e = .returned x ∧ New 5 w x l w' := by
  have HR : Hid (Rd w v l) := hr
  have HL : Hid (l.length ≤ 1000000) := hl
  obtain ⟨a, c, rfl, h1, h2, h3, -⟩ := id hr
  obtain ⟨n, hn⟩ : ∃ n : Nat, n = l.length := ⟨_, rfl⟩
  have HN : Hid (n = l.length) := hn
  rw [← hn] at h1 HR ⊢
  unfold maxLen at h2
  cases a with
  | none =>
    have hc0 := h3 rfl
    subst hc0
    have hn0 : n = 0 := by omega
    subst hn0
    have HX : Hid (l = []) := (List.eq_nil_of_length_eq_zero hn.symm : l = [])
    have heq : (binOp .eql 40 (.slice none 0 0) (.slice none 0 0)).run Tryd.prog w = .ok (.bool true) w := Lib.run_eql_slice_nil w _ _ _ _ _ _ _ Tryd.underlying40
    clear hr hl hn h1 h3
    go_enter Tryd.func28, Tryd.ntmps28
    go_wp2
    go_ret
    exact ⟨_, rfl, by rw [HX.out]; exact ⟨World.ownsRow_nil _ _ _ _, Below.refl _ _⟩⟩
  | some ad =>
    have heq : (binOp .eql 40 (.slice (some ad) n c) (.slice none 0 0)).run Tryd.prog w = .ok (.bool false) w := Lib.run_eql_slice_nil w _ _ _ _ _ _ _ Tryd.underlying40
    clear hr hl hn h3
    go_enter Tryd.func28, Tryd.ntmps28
    go_wp2_with (refine wpList_build0b rfl 40 rfl 5 (build_by0 _) ?_)
    intro w1 hO
    have HR1 : Hid (Rd w1 (.slice (some ad) n c) l) := HR.out.kept hO.below
    have HO : Hid _ := hO
    clear hO HR
    go_wp2_with (at_builtin; go_must (refine wpList_append_Own (w0 := w) rfl _ _ 40 rfl Tryd.underlying40 infoU8 _ _ rfl HO.out _ _ rfl HR1.out (by have := HL.out; simp; omega) ?_))
    intro vx w2 hO5
    have HN2 : Hid (New 5 w vx l w2) := (by simpa using hO5.first22 : New 5 w vx l w2)
    clear hO5 HO
    go_wp2
    go_ret
    exact ⟨_, rfl, HN2.out⟩

theorem info_cph : (Tryd.prog.info? 46).map (·.size) = some 2 := by kernel_rfl
theorem build_sn (r0 r1 : Nat) (r2 : Int) (r3 r4 r5 r6 : Nat) (a1 a2 : Option Addr) (l1 c1 l2 c2 n now : Nat) (w : World) : (Instr.build 80 #[(0, .agg #[.int .u64 (r0 : Int), .int .u64 (r1 : Int), .int .i64 r2, .int .u64 (r3 : Int), .int .u64 (r4 : Int), .int .u64 (r5 : Int), .int .u64 (r6 : Int)]), (1, .agg #[.slice a1 l1 c1, .int .u64 (n : Int)]), (2, .slice a2 l2 c2), (4, .int .u64 (now : Int))]).run Tryd.prog w = .ok (.agg #[.int .u64 (r0 : Int), .int .u64 (r1 : Int), .int .i64 r2, .int .u64 (r3 : Int), .int .u64 (r4 : Int), .int .u64 (r5 : Int), .int .u64 (r6 : Int), .slice a1 l1 c1, .int .u64 (n : Int), .slice a2 l2 c2, .int .u64 0, .int .u64 0, .int .u64 0, .int .u64 (now : Int), .int .u64 0]) w := by kernel_rfl
theorem wp_box_sn {w : World} {o : Oper} {a : Act} {K : Act → World → Prop} {Q : Exit → Act → World → Prop} (x : Operand) (ho : o.op = .box 80 x) (cs : List Value) (hx : a.eval x = .agg cs.toArray)
    (h : ∀ g w', w.heap.size ≤ g → BlkAt g 80 cs w' → Below w.heap.size w w' → K (a.put o.dst (.pointer (some ⟨g, 0, none⟩))) w') : o.wp Tryd.prog a w K Q := by
  unfold Oper.wp execOp
  simp only [ho, hx, Sem.run_bind, run_boxB, Result.andThen_ok, Sem.run_pure]
  exact h _ _ (Nat.le_refl _) (BlkAt.fresh rfl rfl) (growB _)

set_option maxRecDepth 100000 in
set_option maxHeartbeats 8000000 in
theorem cnew_any (r : Rl) (v1 v2 : Value) (k1 k2 : List UInt8) (n1 n2 now : Nat) (hk1 : k1.length ≤ 1000000) (hk2 : k2.length ≤ 1000000) (hn1 : n1 < 18446744073709551616) (hn2 : n2 < 18446744073709551616) (hnow : now < 18446744073709551616)
    (A B C : Array Value) (hA : A = #[v1, .int .u64 (n1 : Int)]) (hB : B = #[v2, .int .u64 (n2 : Int)]) (hC : C = (rlC r).toArray) (w : World) (h1 : Rd w v1 k1) (h2 : Rd w v2 k2) :
    Calls Tryd.prog 16 #[.agg A, .agg B, .agg C, .int .u64 (now : Int)] w fun e w' => ∃ g, e = .returned (.pointer (some ⟨g, 0, none⟩)) ∧ w.heap.size ≤ g ∧ SnP g r ⟨⟨k1, n1⟩, ⟨k2, n2⟩, now, 0, []⟩ w' ∧ Below w.heap.size w w' := by
  subst hA hB
  have HC : Hid (C = (rlC r).toArray) := hC
  have HR1 : Hid (Rd w v1 k1) := h1
  have HR2 : Hid (Rd w v2 k2) := h2
  have HK : Hid (k1.length ≤ 1000000 ∧ k2.length ≤ 1000000) := ⟨hk1, hk2⟩
  have HOk : Hid (SesW ⟨⟨k1, n1⟩, ⟨k2, n2⟩, now, 0, []⟩) := ⟨hn1, hn2, hnow, (by decide : 0 < 18446744073709551616), fun x hx => by cases hx⟩
  obtain ⟨a1, c1, rfl, -⟩ := id h1
  obtain ⟨a2, c2, rfl, -⟩ := id h2
  clear hC h1 h2 hk1 hk2 hn1 hn2 hnow
  go_enter Tryd.func16, Tryd.ntmps16
  go_wp2_with (refine wpList_box_blk rfl 46 _ rfl [.slice a1 k1.length c1, .int .u64 (n1 : Int)] rfl ?_)
  intro w1 r1 b1 s1
  go_wp2_with (refine wpList_box_blk rfl 46 _ rfl [.slice a2 k2.length c2, .int .u64 (n2 : Int)] rfl ?_)
  intro w2 r2 b2 s2
  go_wp2_with (refine wpList_box_blk rfl 24 _ rfl (rlC r) (by rw [← HC.out]; rfl) ?_)
  intro w3 r3 b3 s3
  obtain ⟨g1, hg1⟩ : ∃ n : Nat, n = w.heap.size := ⟨_, rfl⟩
  obtain ⟨g2, hg2⟩ : ∃ n : Nat, n = w1.heap.size := ⟨_, rfl⟩
  obtain ⟨g3, hg3⟩ : ∃ n : Nat, n = w2.heap.size := ⟨_, rfl⟩
  rw [← hg1] at r1 ⊢
  rw [← hg2] at r2 ⊢
  rw [← hg3] at r3 ⊢
  have H1 : Hid (BlkAt g1 46 [.slice a1 k1.length c1, .int .u64 (n1 : Int)] w3) := (r1.kept b2).kept b3
  have H2 : Hid (BlkAt g2 46 [.slice a2 k2.length c2, .int .u64 (n2 : Int)] w3) := r2.kept b3
  have H3 : Hid (BlkAt g3 24 (rlC r) w3) := r3
  have HB : Hid (Below w.heap.size w w3) := stepB (stepB b1 b2) b3
  have HG : Hid (w.heap.size ≤ g1 ∧ g1 ≠ g2 ∧ g1 ≠ g3) := ⟨by omega, by have := s1.out; omega, by have := s1.out; have := b2.size; omega⟩
  have c0 : w3.cell? ⟨g1, 0, none⟩ = some (.slice a1 k1.length c1) := H1.out.cell 0
  clear r1 r2 r3 b1 b2 b3 s1 s2 s3 hg1 hg2 hg3 HC
  go_wp2_with fail
  refine (bclone_any _ k1 HK.out.1 _ (HR1.out.kept HB.out)).mono ?_
  rintro e w4 ⟨x1, rfl, hN4⟩
  have hc0 := (H1.out.kept hN4.2).cell 0
  have hf0 := (H1.out.kept hN4.2).free 0
  obtain ⟨a4, c4, rfl, -⟩ := id hN4.rd
  have HB4 : Hid (Below w.heap.size w w4) := stepB HB.out hN4.2
  have hw : Wrote g1 w4 (w4.setCell ⟨g1, 0, none⟩ (.slice a4 k1.length c4)) := Wrote.set _ _ _ _
  have h5 : BlkAt g1 46 [.slice a4 k1.length c4, .int .u64 (n1 : Int)] (w4.setCell ⟨g1, 0, none⟩ (.slice a4 k1.length c4)) := (H1.out.kept hN4.2).set 0 _
  have hn8 : No8 [Value.slice a1 k1.length c1, .int .u64 (n1 : Int)] := No8.of_slices (by
    intro v hv x
    simp only [List.mem_cons, List.not_mem_nil, or_false] at hv
    rcases hv with rfl | rfl <;> simp)
  have h6 : Rd (w4.setCell ⟨g1, 0, none⟩ (.slice a4 k1.length c4)) (.slice a4 k1.length c4) k1 := hN4.rd.past16 (H1.out.kept hN4.2) hn8 (Chg.of_wrote hw)
  have h7 : BlkAt g2 46 [.slice a2 k2.length c2, .int .u64 (n2 : Int)] (w4.setCell ⟨g1, 0, none⟩ (.slice a4 k1.length c4)) := (H2.out.kept hN4.2).wrote hw (fun e => HG.out.2.1 e.symm)
  have h8 : BlkAt g3 24 (rlC r) (w4.setCell ⟨g1, 0, none⟩ (.slice a4 k1.length c4)) := (H3.out.kept hN4.2).wrote hw (fun e => HG.out.2.2 e.symm)
  have h9 : Rd (w4.setCell ⟨g1, 0, none⟩ (.slice a4 k1.length c4)) (.slice a2 k2.length c2) k2 := (HR2.out.kept HB4.out).past16 (H1.out.kept hN4.2) hn8 (Chg.of_wrote hw)
  have h10 : Below w.heap.size w (w4.setCell ⟨g1, 0, none⟩ (.slice a4 k1.length c4)) := hw.below _ _ HG.out.1 HB4.out
  obtain ⟨w5, hw5⟩ : ∃ w5, w5 = w4.setCell ⟨g1, 0, none⟩ (.slice a4 k1.length c4) := ⟨_, rfl⟩
  rw [← hw5] at h5 h6 h7 h8 h9 h10
  have H5 : Hid (BlkAt g1 46 [.slice a4 k1.length c4, .int .u64 (n1 : Int)] w5) := h5
  have H6 : Hid (Rd w5 (.slice a4 k1.length c4) k1) := h6
  have H7 : Hid (BlkAt g2 46 [.slice a2 k2.length c2, .int .u64 (n2 : Int)] w5) := h7
  have H8 : Hid (BlkAt g3 24 (rlC r) w5) := h8
  have H9 : Hid (Rd w5 (.slice a2 k2.length c2) k2) := h9
  have H10 : Hid (Below w.heap.size w w5) := h10
  clear hN4 h5 h6 h7 h8 h9 h10 hw H1 H2 H3 HB HR1 HR2 HB4 c0
  go_wp2_with fail
  rw [← hw5]
  clear hc0 hf0 hw5
  refine wpG_begin (by kernel_rfl) ?_
  refine gU_ 0 rfl ⟨_, by intro W hW; refine Eq.trans (exec_load_part 24 _ (by rfl) (by rfl) [] (rlC r) [] H8.out.drew hW (by rfl) rfl Tryd.underlying24 rfl info_rl) ?_; with_reducible rfl, ?_⟩
  try simp only [Act.put, pA_, pB_, pC_]
  refine gU_ 1 rfl ⟨_, by intro W hW; refine Eq.trans (exec_load_part 46 _ (by rfl) (by rfl) [] [.slice a4 k1.length c4, .int .u64 (n1 : Int)] [] H5.out.drew hW (by rfl) rfl Tryd.underlying46 rfl info_cph) ?_; with_reducible rfl, ?_⟩
  try simp only [Act.put, pA_, pB_, pC_]
  refine gU_ 2 rfl ⟨_, by intro W hW; go_simp <;> with_reducible rfl, ?_⟩
  try simp only [Act.put, pA_, pB_, pC_]
  refine gU_ 3 rfl ⟨_, by intro W hW; have cW : W.cell? ⟨g2, 0, none⟩ = some (.slice a2 k2.length c2) := (H7.out.drew.kept hW).cell 0; go_simp <;> with_reducible rfl, ?_⟩
  try simp only [Act.put, pA_, pB_, pC_]
  refine gU_ 5 rfl ⟨_, by intro W hW; go_simp <;> with_reducible rfl, ?_⟩
  try simp only [Act.put, pA_, pB_, pC_]
  refine gD_ 4 fun K hK => ?_
  go_simp
  refine (bclone_any _ k2 HK.out.2 _ (H9.out.kept (Below.refl _ w5).drew)).mono ?_
  rintro e w6 ⟨x2, rfl, hN6⟩
  obtain ⟨a6, c6, rfl, -⟩ := id hN6.rd
  have HN6 : Hid (New 5 w5.drew (.slice a6 k2.length c6) k2 w6) := hN6
  refine hK.out _ _ HN6.out.2 ?_
  clear hK K
  try simp only [Act.put, pA_, pB_, pC_]
  refine gU_ 6 rfl ⟨_, by intro W hW; refine Eq.trans (exec_build 80 _ (by rfl) #[(0, .agg (rlC r).toArray), (1, .agg #[.slice a4 k1.length c4, .int .u64 (n1 : Int)]), (2, .slice a6 k2.length c6), (4, .int .u64 (now : Int))] (by go_simp; done) _ (build_sn _ _ _ _ _ _ _ _ _ _ _ _ _ _ _ _)) ?_; with_reducible rfl, ?_⟩
  try simp only [Act.put, pA_, pB_, pC_]
  refine gD_ 7 fun K hK => ?_
  refine wp_box_sn _ rfl (snC r (.slice a4 k1.length c4) (.slice a6 k2.length c6) n1 0 0 0 now 0) (by rfl) ?_
  intro g wx hgx hX bX
  have HX : Hid (w6.heap.size ≤ g ∧ BlkAt g 80 (snC r (.slice a4 k1.length c4) (.slice a6 k2.length c6) n1 0 0 0 now 0) wx ∧ Below w6.heap.size w6 wx) := ⟨hgx, hX, bX⟩
  refine hK.out _ _ HX.out.2.2 ?_
  clear hK K
  try simp only [Act.put, pA_, pB_, pC_]
  refine gU_ 8 rfl ⟨_, by intro W hW; go_simp <;> with_reducible rfl, ?_⟩
  try simp only [Act.put, pA_, pB_, pC_]
  refine wpG_done (by kernel_rfl) ?_
  have H5B : Hid (Below w5.heap.size w5 w6) := (stepB (Below.refl _ w5).drew HN6.out.2 : Below w5.heap.size w5 w6)
  have HZ : Hid (w.heap.size ≤ g ∧ SnP g r ⟨⟨k1, n1⟩, ⟨k2, n2⟩, now, 0, []⟩ wx ∧ Below w.heap.size w wx) := by
    refine ⟨?_, ⟨HOk.out, a4, c4, a6, c6, 0, 0, Wn.none, (by decide : tpN [] < 18446744073709551616), HX.out.2.1, (H6.out.kept H5B.out).kept HX.out.2.2, HN6.out.rd.kept HX.out.2.2⟩, stepB (stepB H10.out H5B.out) HX.out.2.2⟩
    have := HX.out.1
    have := H5B.out.size
    have := H10.out.size
    omega
  clear HX H5B HN6 H5 H6 H7 H8 H9 H10
  go_wp2
  go_ret
  exact ⟨g, rfl, HZ.out.1, HZ.out.2.1, HZ.out.2.2⟩
end Go.Proofs.YtliiofjcghdjoaaDoor

/- What is sealed is opened again, and how long what is mixed is: plain mathematics. No program's text is named. -/
namespace Go.Proofs.YtliiofjcghdjoaaDoor
set_option linter.unusedSimpArgs false
set_option linter.unusedVariables false

theorem seL_len (k n a t : List UInt8) : (seL k n a t).length = t.length + 16 := by
  unfold seL
  rw [List.length_append, smL_length, show (tgL k n a (smL k 1 n t)).length = 16 from mcP_length _ _]
theorem opQ_seL (k n a t : List UInt8) : opQ k n a (seL k n a t) = (t, 0) := by
  have e1 : (seL k n a t).length - 16 = (smL k 1 n t).length := by rw [seL_len, smL_length]; omega
  have e2 : (seL k n a t).take (smL k 1 n t).length = smL k 1 n t := by unfold seL; rw [List.take_left]
  have e3 : (seL k n a t).drop (smL k 1 n t).length = tgL k n a (smL k 1 n t) := by unfold seL; rw [List.drop_left]
  unfold opQ
  rw [if_neg (by rw [seL_len]; omega), e1, e2, e3, if_pos rfl, smL_twice]
theorem nwH_length (s : List UInt8) : (nwH s).length = 32 := by
  unfold nwH
  split
  · exact s2L_length _
  · rw [List.length_append, List.length_replicate]; omega
/-- What a state with a key seals, its like opens. -/
theorem opS_seS (s : Sta) (t : List UInt8) (hk : s.c.key.length = 32) (hn : s.c.n ≠ 18446744073709551615) : seS s t = (⟨s.ck, s2L (s.h ++ seL s.c.key (ncL s.c.n) s.h t), ⟨s.c.key, s.c.n + 1⟩⟩, seL s.c.key (ncL s.c.n) s.h t, 0) ∧ opS s (seL s.c.key (ncL s.c.n) s.h t) = (⟨s.ck, s2L (s.h ++ seL s.c.key (ncL s.c.n) s.h t), ⟨s.c.key, s.c.n + 1⟩⟩, t, 0) := by
  have e1 : seC s.c s.h t = (⟨s.c.key, s.c.n + 1⟩, seL s.c.key (ncL s.c.n) s.h t, 0) := by
    unfold seC
    rw [if_neg (by omega), if_neg (by omega), if_neg hn]
  have e2 : opC s.c s.h (seL s.c.key (ncL s.c.n) s.h t) = (⟨s.c.key, s.c.n + 1⟩, t, 0) := by
    unfold opC
    rw [if_neg (by omega), if_neg (by omega), if_neg hn, opQ_seL, if_pos rfl]
  refine ⟨?_, ?_⟩
  · unfold seS
    rw [e1, if_pos rfl]
  · unfold opS
    rw [e2, if_pos rfl]
/-- A state as a script may leave it. -/
structure Sound (s : Sta) : Prop where
  ck : s.ck.length = 32
  h : s.h.length = 32
  key : s.c.key.length = 0 ∨ s.c.key.length = 32
  n : s.c.n < 18446744073709551616
theorem Sound.nw (l : List UInt8) : Sound (nwS l) := ⟨nwH_length l, nwH_length l, .inl rfl, by show 0 < _; omega⟩
theorem Sound.mx {s : Sta} (h : Sound s) (i : List UInt8) : Sound (mkS s i) := ⟨mcF_length _ _, h.h, .inr (mcF_length _ _), by show 0 < _; omega⟩
theorem Sound.mb {s : Sta} (h : Sound s) (i : List UInt8) : Sound (mbS s i) := ⟨mcF_length _ _, s2L_length _, .inr (mcF_length _ _), by show 0 < _; omega⟩
theorem Sound.mh {s : Sta} (h : Sound s) (i : List UInt8) : Sound (mhS s i) := ⟨h.ck, s2L_length _, h.key, h.n⟩
theorem Sound.put {s : Sta} (h : Sound s) (n : Nat) (hn : n < 18446744073709551616) : Sound ⟨s.ck, s.h, ⟨s.c.key, n⟩⟩ := ⟨h.ck, h.h, h.key, hn⟩
theorem seC_facts (c : Cph) (a t : List UInt8) (hn : c.n < 18446744073709551616) : (seC c a t).1.key = c.key ∧ (seC c a t).1.n < 18446744073709551616 ∧ (seC c a t).2.1.length ≤ t.length + 16 := by
  unfold seC
  split
  · exact ⟨rfl, hn, by show t.length ≤ _; omega⟩
  · split
    · exact ⟨rfl, hn, by show 0 ≤ _; omega⟩
    · split
      · exact ⟨rfl, hn, by show 0 ≤ _; omega⟩
      · refine ⟨rfl, ?_, ?_⟩
        · show c.n + 1 < _; omega
        · show (seL _ _ _ _).length ≤ _; rw [seL_len]; omega
theorem opQ_len (k n a s : List UInt8) : (opQ k n a s).1.length ≤ s.length := by
  unfold opQ
  split
  · show 0 ≤ _; omega
  · split
    · show (smL _ _ _ _).length ≤ _; rw [smL_length, List.length_take]; omega
    · show 0 ≤ _; omega
theorem opC_facts (c : Cph) (a t : List UInt8) (hn : c.n < 18446744073709551616) : (opC c a t).1.key = c.key ∧ (opC c a t).1.n < 18446744073709551616 ∧ (opC c a t).2.1.length ≤ t.length := by
  unfold opC
  split
  · exact ⟨rfl, hn, Nat.le_refl _⟩
  · split
    · exact ⟨rfl, hn, by show 0 ≤ _; omega⟩
    · split
      · exact ⟨rfl, hn, by show 0 ≤ _; omega⟩
      · split
        · refine ⟨rfl, ?_, opQ_len _ _ _ _⟩
          show c.n + 1 < _; omega
        · exact ⟨rfl, hn, by show 0 ≤ _; omega⟩
theorem Sound.se {s : Sta} (h : Sound s) (t : List UInt8) : Sound (seS s t).1 := by
  obtain ⟨h1, h2, -⟩ := seC_facts s.c s.h t h.n
  unfold seS
  split
  · exact ⟨h.ck, s2L_length _, by show (seC s.c s.h t).1.key.length = 0 ∨ (seC s.c s.h t).1.key.length = 32; rw [h1]; exact h.key, h2⟩
  · exact h
theorem Sound.op {s : Sta} (h : Sound s) (t : List UInt8) : Sound (opS s t).1 := by
  obtain ⟨h1, h2, -⟩ := opC_facts s.c s.h t h.n
  unfold opS
  split
  · exact ⟨h.ck, s2L_length _, by show (opC s.c s.h t).1.key.length = 0 ∨ (opC s.c s.h t).1.key.length = 32; rw [h1]; exact h.key, h2⟩
  · exact h
theorem seS_len (s : Sta) (t : List UInt8) (hn : s.c.n < 18446744073709551616) : (seS s t).2.1.length ≤ t.length + 16 := by
  unfold seS
  split
  · exact (seC_facts _ _ _ hn).2.2
  · show 0 ≤ _; omega
end Go.Proofs.YtliiofjcghdjoaaDoor

/- What sealing and opening leave of a cipher: plain mathematics. No program's text is named. -/
namespace Go.Proofs.YtliiofjcghdjoaaDoor
set_option linter.unusedSimpArgs false
set_option linter.unusedVariables false

theorem seC_kept (c : Cph) (ad t : List UInt8) : (seC c ad t).1.key = c.key := by
  unfold seC
  split
  · rfl
  · split
    · rfl
    · split <;> rfl
theorem seC_err {c : Cph} {ad t : List UInt8} (h : (seC c ad t).2.2 ≠ 0) : (seC c ad t).1 = c := by
  unfold seC at h ⊢
  split
  · rfl
  · split
    · rfl
    · split
      · rfl
      · rename_i h1 h2 h3
        rw [if_neg h1, if_neg h2, if_neg h3] at h
        exact absurd rfl h
theorem seC_lt {c : Cph} (ad t : List UInt8) (h : c.n < 18446744073709551616) : (seC c ad t).1.n < 18446744073709551616 := by
  unfold seC
  split
  · exact h
  · split
    · exact h
    · split
      · exact h
      · show c.n + 1 < _
        omega
/-- What was sealed is opened again, with its number. -/
theorem opC_seC (c : Cph) (t : List UInt8) (h : (seC c [] t).2.2 = 0) : (opC ⟨c.key, c.n⟩ [] (seC c [] t).2.1).2 = (t, 0) := by
  unfold seC at h ⊢
  unfold opC
  split
  · rfl
  · rename_i h1
    rw [if_neg h1] at h
    split
    · rename_i h2
      rw [if_pos h2] at h
      exact absurd h (by simp)
    · rename_i h2
      rw [if_neg h2] at h
      split
      · rename_i h3
        rw [if_pos h3] at h
        exact absurd h (by simp)
      · show (if (opQ c.key (ncL c.n) [] (seL c.key (ncL c.n) [] t)).2 = 0 then _ else _ : Cph × List UInt8 × Int).2 = _
        rw [opQ_seL]
        rfl
theorem ssS_ok {r : Rl} {s : Ses} {t : List UInt8} {now : Nat} (hr : RlW r) (hs : SesW s) : SesW (ssS r s t now).1 := by
  unfold ssS
  split
  · exact hs
  · rename_i h1
    split
    · exact hs
    · exact ⟨seC_lt _ _ hs.sn, hs.rn, hs.born, exB_sent hr (by simpa using h1), hs.came⟩
theorem mkL_lt {l : List Nat} {n : Nat} (hl : ∀ x ∈ l, x < 18446744073709551616) (hn : n < 18446744073709551616) : ∀ x ∈ (mkL l n).1, x < 18446744073709551616 := by
  unfold mkL
  split
  · intro x hx
    rcases List.mem_append.1 hx with h | h
    · exact hl x h
    · rw [List.mem_singleton.1 h]; exact hn
  · exact hl
theorem ssO_ok {r : Rl} {s : Ses} {b : List UInt8} {n now : Nat} (hs : SesW s) (hn : n < 18446744073709551616) : SesW (ssO r s n b now).1 := by
  unfold ssO
  split
  · exact hs
  · split
    · exact hs
    · split
      · exact hs
      · exact ⟨hs.sn, hs.rn, hs.born, hs.sent, mkL_lt hs.came hn⟩
end Go.Proofs.YtliiofjcghdjoaaDoor

/- What the document's own joining answers: a contract of the reference of layer 1. -/
namespace Go.Proofs.YtliiofjcghdjoaaDoor
open Go.ChangeShapes Go.WideShapes Go.ChangeAt Go.RowKit
set_option linter.unusedSimpArgs false
set_option linter.unusedVariables false

theorem joinR_any (va vb : Value) (a b : List UInt8) (hl : a.length + b.length ≤ 140737488355328) (w : World) (ha : Rd w va a) (hb : Rd w vb b) :
    Calls Tryd.prog 51 #[va, vb] w fun e w' => ∃ r, e = .returned r ∧ New 5 w r (a ++ b) w' := by
  have HL : Hid (a.length + b.length ≤ 140737488355328) := hl
  have HL0 : Hid (([] : List UInt8).length + a.length ≤ 140737488355328) := by show _ ≤ _; simp; omega
  have hN0 : New 5 w (.slice none 0 0) [] w := New.start w
  clear hl
  go_enter Tryd.func51, Tryd.ntmps51
  go_wp2_with (at_builtin; go_must (refine wpList_append_new (w := w) rfl _ _ 40 rfl 5 Tryd.underlying40 infoU8 _ _ rfl hN0 _ _ rfl ha HL0.out ?_))
  intro v1 w1 hN1 _
  replace hb := hb.kept hN1.2
  go_wp2_with (at_builtin; go_must (refine wpList_append_new (w := w) rfl _ _ 40 rfl 5 Tryd.underlying40 infoU8 _ _ rfl hN1 _ _ rfl hb HL.out ?_))
  intro v2 w2 hN2 _
  go_wp2
  go_ret
  exact ⟨_, rfl, hN2⟩
end Go.Proofs.YtliiofjcghdjoaaDoor

/- What the document's own stream is: a contract of the reference of layer 7. -/
namespace Go.Proofs.YtliiofjcghdjoaaDoor
open Go.ChangeShapes Go.WideShapes Go.ChangeAt Go.RowKit
set_option linter.unusedSimpArgs false
set_option linter.unusedVariables false

theorem stream_facts (i c : Nat) (hi : i < 1000000000) (hc : c < 4294967296) : ∃ q r d : Nat, q = i / 64 ∧ r = i % 64 ∧ d = c + q ∧ ((i : Nat) : Int).tdiv 64 = (q : Int) ∧ IntKind.i64.wrap (q : Int) = (q : Int) ∧ IntKind.u64.wrap (q : Int) = (q : Int) ∧ IntKind.u64.wrap ((c : Int) + (q : Int)) = (d : Int) ∧
    ((i : Nat) : Int).tmod 64 = (r : Int) ∧ IntKind.i64.wrap (r : Int) = (r : Int) ∧ r < 64 ∧ (r : Int) < 64 ∧ d < 18446744073709551616 := by
  refine ⟨i / 64, i % 64, c + i / 64, rfl, rfl, rfl, ?_, ?_, ?_, ?_, ?_, ?_, by omega, by omega, by omega⟩
  · rw [Int.tdiv_eq_ediv_of_nonneg (by omega)]; omega
  · exact IntWalk.i64_in _ (by omega)
  · rw [IntKind.wrap_u64]; omega
  · rw [IntKind.wrap_u64]; omega
  · rw [Int.tmod_eq_emod_of_nonneg (by omega)]; omega
  · exact IntWalk.i64_in _ (by omega)
theorem Rd.cell0 {w : World} {b off n cap : Nat} {l : List UInt8} (h : Rd w (.slice (some ⟨b, off, none⟩) n cap) l) {i : Nat} (hi : i < l.length) : w.cell? ⟨b, off + i, none⟩ = some (.int .u8 ((l.getD i 0).toNat : Int)) := by
  obtain ⟨b', o', c', ev, -, hc, -⟩ := h.cellAt hi
  simp only [Value.slice.injEq, Option.some.injEq, Addr.mk.injEq, and_true] at ev
  obtain ⟨⟨rfl, rfl⟩, -, -⟩ := ev
  exact hc
/-- The first i bytes. -/
def smP (key : List UInt8) (c : Nat) (nonce b : List UInt8) (i : Nat) : List UInt8 := (List.range i).map fun j => b.getD j 0 ^^^ ksB key c nonce j
theorem smP_next (key : List UInt8) (c : Nat) (nonce b : List UInt8) (i : Nat) : smP key c nonce b i ++ [b.getD i 0 ^^^ ksB key c nonce i] = smP key c nonce b (i + 1) := by
  unfold smP
  rw [List.range_succ, List.map_append]
  rfl
theorem smP_length (key : List UInt8) (c : Nat) (nonce b : List UInt8) (i : Nat) : (smP key c nonce b i).length = i := by simp [smP]
theorem smP_all (key : List UInt8) (c : Nat) (nonce b : List UInt8) : smP key c nonce b b.length = smL key c nonce b := rfl

set_option maxRecDepth 100000 in
set_option maxHeartbeats 2000000 in
theorem streamR_arg (vk vn vb : Value) (k n b : List UInt8) (C : Int) (w : World) (hk : Rd w vk k) (hn : Rd w vn n) (h : ¬ (k.length = 32 ∧ n.length = 12)) :
    Calls Tryd.prog 50 #[vk, .int .u64 C, vn, vb] w fun e w' => e = .returned (.slice none 0 0) ∧ w' = w := by
  obtain ⟨ak, ck, rfl, -, hmk, -, -⟩ := id hk
  obtain ⟨an, cn, rfl, -, hmn, -, -⟩ := id hn
  unfold maxLen at hmk hmn
  by_cases h1 : k.length = 32
  case' pos =>
    have d1 : (((k.length : Nat) : Int) != 32) = false := by rw [h1]; rfl
    have d2 : (((n.length : Nat) : Int) != 12) = true := by
      simp only [bne_iff_ne, ne_eq]
      omega
  case' neg =>
    have d1 : (((k.length : Nat) : Int) != 32) = true := by
      simp only [bne_iff_ne, ne_eq]
      omega
  all_goals
    have H : Hid _ := h
    clear h h1
    go_enter Tryd.func50, Tryd.ntmps50
    go_wp2
    go_ret
    exact ⟨rfl, rfl⟩

set_option maxRecDepth 100000 in
set_option maxHeartbeats 4000000 in
theorem streamR_any (vk vn vb : Value) (k n b : List UInt8) (c : Nat) (C : Int) (hC : C = (c : Int)) (hc32 : c < 4294967296) (w : World) (hk : Rd w vk k) (hn : Rd w vn n) (hb : Rd w vb b) (hk32 : k.length = 32) (hn12 : n.length = 12) (hbl : b.length ≤ 100000000) :
    Calls Tryd.prog 50 #[vk, .int .u64 C, vn, vb] w fun e w' => ∃ r, e = .returned r ∧ New 5 w r (smL k c n b) w' := by
  subst hC
  obtain ⟨ak, ck, rfl, -, hmk, -, -⟩ := id hk
  obtain ⟨an, cn, rfl, -, hmn, -, -⟩ := id hn
  obtain ⟨ab, cb, rfl, -, hmb, -, -⟩ := id hb
  unfold maxLen at hmk hmn hmb
  have d1 : (((k.length : Nat) : Int) != 32) = false := by rw [hk32]; rfl
  have d2 : (((n.length : Nat) : Int) != 12) = false := by rw [hn12]; rfl
  have HKR : Hid (Rd w (.slice ak k.length ck) k) := hk
  have HNR : Hid (Rd w (.slice an n.length cn) n) := hn
  have HBR : Hid (Rd w (.slice ab b.length cb) b) := hb
  have HK : Hid (k.length = 32) := hk32
  have HN : Hid (n.length = 12) := hn12
  have hN0 : New 5 w (.slice none 0 0) (smP k c n b 0) w := New.start w
  clear hk hn hb hk32 hn12
  go_enter Tryd.func50, Tryd.ntmps50
  have hO0 : Own 5 w [(.slice none 0 0, smP k c n b 0), (.slice none 0 0, [])] w := (Own.start 5 w).nil.nil
  clear hN0
  go_wp2
  go_loopw [9, 10, 11] (fun ov lv iv wx => ∃ (i : Nat) (L : List UInt8), i ≤ b.length ∧ iv = .int .i64 (i : Int) ∧ Own 5 w [(ov, smP k c n b i), (lv, L)] wx ∧ Hid (i % 64 ≠ 0 → L = bkL k (c + i / 64) n)) (fun _ _ iv _ => b.length - (intOf iv).toNat)
  case atStart => exact ⟨0, [], by omega, rfl, hO0, fun h => absurd rfl h⟩
  case round =>
    obtain ⟨i, L, hi, rfl, hO, HLk⟩ := hrel
    clear hO0
    by_cases hlt : i < b.length
    · have hd : decide ((i : Int) < (b.length : Int)) = true := decide_eq_true (by omega)
      have hiI : (i : Int) < (b.length : Int) := by omega
      obtain ⟨q, r, d, hq, hr, hdq, f1, f2, f3, f4, f5, f6, hr64, hrI, hd64⟩ := stream_facts i c (by omega) hc32
      by_cases h0 : r = 0
      case' pos =>
        have hr0 : ((r : Int) == 0) = true := by rw [h0]; rfl
        have HDQ : Hid (bkL k d n = bkL k (c + i / 64) n) := by show _ = _; rw [hdq, hq]
        have HRQ : Hid (r = i % 64) := hr
        clear hq hr hdq h0
        go_wp2_with fail
        refine (blockR_any _ _ k n d _ rfl hd64 _ (HKR.out.kept hO.below) (HNR.out.kept hO.below) HK.out HN.out).mono ?_
        rintro e w5 ⟨v5, rfl, hN5⟩
        rw [HDQ.out] at hN5
        have hO5 := ((hO.new hN5).perm (List.reverse_perm _)).tail
        have hOr : Own 5 w [(u9, smP k c n b i), (v5, bkL k (c + i / 64) n)] w5 := hO5
        have hR5 := hOr.rd (v := v5) (l := bkL k (c + i / 64) n) (by simp)
        clear hN5 hO hO5 HLk hr0 HDQ
      case' neg =>
        have hr0 : ((r : Int) == 0) = false := by simp; omega
        have HDQ : Hid (L = bkL k (c + i / 64) n) := HLk.out (by rw [← hr]; exact h0)
        have HRQ : Hid (r = i % 64) := hr
        rw [HDQ.out] at hO
        have hOr : Own 5 w [(u9, smP k c n b i), (u10, bkL k (c + i / 64) n)] wr := hO
        have hR5 := hOr.rd (v := u10) (l := bkL k (c + i / 64) n) (by simp)
        clear hq hr hdq h0 hO HLk HDQ
      all_goals
        obtain ⟨gb, ob, cB, rfl, hcB, hcr, -⟩ := hR5.cellAt (i := r) (by rw [bkL_length]; exact hr64)
        obtain ⟨bb, bo, cbb, ev, -, hcb, -⟩ := HBR.out.cellAt (i := i) hlt
        simp only [Value.slice.injEq] at ev
        obtain ⟨rfl, -, rfl⟩ := ev
        rw [bkL_length] at hcB hR5 hOr ⊢
        have HNx : Hid _ := smP_next k c n b i
        have HKS : Hid (ksB k c n i = (bkL k (c + i / 64) n).getD r 0) := by show _ = _; unfold ksB; rw [HRQ.out]
        have HSL : Hid ((smP k c n b i).length ≤ 100000000) := by show _ ≤ _; rw [smP_length]; omega
        rw [HKS.out] at HNx
        have xx := byte_xor (b.getD i 0) ((bkL k (c + i / 64) n).getD r 0)
        have hbelow := hOr.below
        obtain ⟨BK, hBK⟩ : ∃ B : List UInt8, B = bkL k (c + i / 64) n := ⟨_, rfl⟩
        rw [← hBK] at hcr hOr hR5 HNx HKS xx
        obtain ⟨p, hp⟩ : ∃ p : UInt8, p = b.getD i 0 := ⟨_, rfl⟩
        rw [← hp] at hcb HNx xx
        obtain ⟨q2, hq2⟩ : ∃ p : UInt8, p = BK.getD r 0 := ⟨_, rfl⟩
        rw [← hq2] at hcr HNx xx
        obtain ⟨y, hy⟩ : ∃ y : UInt8, y = p ^^^ q2 := ⟨_, rfl⟩
        rw [← hy] at HNx xx
        have HBKL : Hid (BK.length = 64) := by show _ = _; rw [hBK]; exact bkL_length _ _ _
        have HQ2 : Hid _ := hq2
        have HBK : Hid _ := hBK
        clear hp hq2 hy hBK HKS
        rename World => wX
        have hS : Below w.heap.size w wX.drew ∧ wX.drew.cell? ⟨gb, ob + r, none⟩ = some (.int .u8 ((q2.toNat : Nat) : Int)) := ⟨hbelow.drew, hcr⟩
        have hb1 := growB (w := wX.drew) (.cells #[.int .u8 ((y.toNat : Nat) : Int)] 5)
        have hO6 := hOr.drew.kept hb1
        have r8 : Rd (wX.drew.alloc (.cells #[.int .u8 ((y.toNat : Nat) : Int)] 5)) (.slice (some ⟨wX.heap.size, 0, none⟩) 1 1) [y] := Rd.lit1 y rfl
        go_wp2_with fail
        refine wpS_begin (fun W => Below w.heap.size w W ∧ W.cell? ⟨gb, ob + r, none⟩ = some (.int .u8 ((q2.toNat : Nat) : Int))) (by kernel_rfl) ?_
        refine sU_ hS 0 rfl ⟨_, by intro W hW; go_simp <;> with_reducible rfl, ?_⟩
        try simp only [Act.put, pA_, pB_, pC_]
        refine sU_ hS 1 rfl ⟨_, by intro W hW; go_simp <;> with_reducible rfl, ?_⟩
        try simp only [Act.put, pA_, pB_, pC_]
        refine sU_ hS 2 rfl ⟨_, by intro W hW; go_simp <;> with_reducible rfl, ?_⟩
        try simp only [Act.put, pA_, pB_, pC_]
        refine sU_ hS 3 rfl ⟨_, by intro W hW; go_simp <;> with_reducible rfl, ?_⟩
        try simp only [Act.put, pA_, pB_, pC_]
        refine sU_ hS 4 rfl ⟨_, by intro W hW; have hcW := cellK0 hcb hW.1; go_simp <;> with_reducible rfl, ?_⟩
        try simp only [Act.put, pA_, pB_, pC_]
        refine sU_ hS 5 rfl ⟨_, by intro W hW; go_simp <;> with_reducible rfl, ?_⟩
        try simp only [Act.put, pA_, pB_, pC_]
        refine sU_ hS 6 rfl ⟨_, by intro W hW; go_simp <;> with_reducible rfl, ?_⟩
        try simp only [Act.put, pA_, pB_, pC_]
        refine sU_ hS 7 rfl ⟨_, by intro W hW; go_simp <;> with_reducible rfl, ?_⟩
        try simp only [Act.put, pA_, pB_, pC_]
        refine sU_ hS 8 rfl ⟨_, by intro W hW; go_simp <;> with_reducible rfl, ?_⟩
        try simp only [Act.put, pA_, pB_, pC_]
        refine sU_ hS 9 rfl ⟨_, by intro W hW; have hcW := hW.2; go_simp <;> with_reducible rfl, ?_⟩
        try simp only [Act.put, pA_, pB_, pC_]
        refine sU_ hS 10 rfl ⟨_, by intro W hW; go_simp <;> with_reducible rfl, ?_⟩
        try simp only [Act.put, pA_, pB_, pC_]
        refine sD_ 11 fun K hK => ?_
        replace hS := And.intro (stepB hS.1 hb1) (cellK0 hS.2 hb1)
        go_simp
        refine hK.out _ _ hS ?_
        clear hK K
        try simp only [Act.put, pA_, pB_, pC_]
        refine sD_ 12 fun K hK => ?_
        refine wp_append_base (base := w.heap.size) _ _ 40 (by rfl) 5 Tryd.underlying40 infoU8 _ _ (by rfl) (hO6.rows _ (List.mem_cons_self ..)) hO6.below.size _ _ (by rfl) r8 (by have := HSL.out; simp only [List.length_singleton]; omega) ?_
        intro v7 w7 q1 q2' q3
        have hO7 := hO6.append q1 q2' q3
        rw [HNx.out] at hO7
        have hR7 := hO7.rd (v := .slice (some ⟨gb, ob, none⟩) 64 cB) (l := BK) (by simp)
        have hc7 := hR7.cell0 (i := r) (by rw [HBKL.out]; exact hr64)
        rw [← HQ2.out] at hc7
        replace hS := And.intro hO7.below hc7
        clear q1 q2' q3
        refine hK.out _ _ hS ?_
        clear hK K
        try simp only [Act.put, pA_, pB_, pC_]
        refine sU_ hS 13 rfl ⟨_, by intro W hW; go_simp <;> with_reducible rfl, ?_⟩
        try simp only [Act.put, pA_, pB_, pC_]
        refine wpS_done (by kernel_rfl) ?_
        have HLN : Hid ((i + 1) % 64 ≠ 0 → BK = bkL k (c + (i + 1) / 64) n) := fun h => by
          rw [HBK.out]
          congr 1
          omega
        clear hS hO6 r8 hb1 hOr hR5 hbelow hcr hcb hR7 hc7
        go_wp2
        go_roundw
        case rel => exact ⟨i + 1, BK, by omega, by go_num, hO7, HLN⟩
        case measure => simp [intOf] <;> omega
    · have hie : i = b.length := by omega
      have hd : decide ((i : Int) < (b.length : Int)) = false := decide_eq_false (by omega)
      have hiI : (b.length : Int) ≤ (i : Int) := by omega
      have hNe : New 5 w u9 (smL k c n b) wr := by
        rw [← smP_all, ← hie]
        exact ⟨hO.rows _ (List.mem_cons_self ..), hO.below⟩
      clear hO hie
      go_wp2
      go_ret
      exact ⟨_, rfl, hNe⟩
end Go.Proofs.YtliiofjcghdjoaaDoor

/- What the document's own carrying of digits is: a contract of the reference of layer 8. -/
namespace Go.Proofs.YtliiofjcghdjoaaDoor
open Go.ChangeShapes Go.WideShapes Go.ChangeAt Go.RowKit
set_option linter.unusedSimpArgs false
set_option linter.unusedVariables false

theorem infoI8 : (Tryd.prog.info? 3).map (fun i => (i.zero, i.size, i.bytes)) = some (some (.int .i64 0), 1, 8) := by kernel_rfl
theorem lit1I8 {k : IntKind} {w : World} {e : TypeId} (x : Int) : RdI k (w.alloc (.cells #[.int k x] e)) (.slice (some ⟨w.heap.size, 0, none⟩) 1 1) [x] :=
  (NewI.lit (k := k) (e := e) (w := w) [x] rfl rfl rfl (by simp [maxLen])).rd
/-- One digit out of a sum. -/
theorem digit_facts (t : Nat) (h : t ≤ 2199023255552) : ∃ q d : Nat, q = t / 256 ∧ d = t % 256 ∧ ((t : Nat) : Int).tmod 256 = (d : Int) ∧ ((t : Nat) : Int).tdiv 256 = (q : Int) ∧ IntKind.i64.wrap (d : Int) = (d : Int) ∧ IntKind.i64.wrap (q : Int) = (q : Int) ∧ q ≤ 8589934592 ∧ IntKind.i64.wrap (t : Int) = (t : Int) := by
  refine ⟨t / 256, t % 256, rfl, rfl, ?_, ?_, ?_, ?_, by omega, ?_⟩
  · rw [Int.tmod_eq_emod_of_nonneg (by omega)]; omega
  · rw [Int.tdiv_eq_ediv_of_nonneg (by omega)]; omega
  · exact IntWalk.i64_in _ (by omega)
  · exact IntWalk.i64_in _ (by omega)
  · exact IntWalk.i64_in _ (by omega)
theorem dgN_len8 (x i : Nat) : (nI (dgN x i)).length = i := by rw [nI_length, dgN_length]
theorem carry_next (s y c i q d : Nat) (hc : c = s / 256 ^ i) (hq : q = (c + y) / 256) (hd : d = (c + y) % 256) : q = (s + 256 ^ i * y) / 256 ^ (i + 1) ∧ nI (dgN (s + 256 ^ i * y) (i + 1)) = nI (dgN s i) ++ [(d : Int)] := by
  obtain ⟨h1, h2, h3⟩ := carry_step s y c i hc
  refine ⟨by rw [h1, hq], ?_⟩
  rw [← dgN_next, h2, h3, ← hd, ← nI_append]
  rfl

/-- What the rounds make less. -/
structure Ms8 where
  f : Nat → Nat → Int → Int → Nat
  eq : ∀ l n i c, f l n i c = (l - i.toNat) * 2199023255553 + (n - i.toNat) * 8589934593 + c.toNat
theorem ms8_is : ∃ _ : Ms8, True := ⟨⟨_, fun _ _ _ _ => rfl⟩, trivial⟩
theorem ms8_in (S8 : Ms8) {l n i c q : Nat} (h : i < l) (hq : q ≤ 8589934592) : S8.f l n ((i : Int) + 1) (q : Int) < S8.f l n (i : Int) (c : Int) := by
  rw [S8.eq, S8.eq]
  have e9 : ((i : Int) + 1).toNat = i + 1 := by omega
  simp only [e9, Int.toNat_natCast]
  omega
theorem ms8_out (S8 : Ms8) {l n i c q : Nat} (h : ¬ i < l) (hq : q ≤ 8589934592) (hqc : q = c / 256) (hc : 0 < c ∨ i < n) : S8.f l n ((i : Int) + 1) (q : Int) < S8.f l n (i : Int) (c : Int) := by
  rw [S8.eq, S8.eq]
  have e9 : ((i : Int) + 1).toNat = i + 1 := by omega
  simp only [e9, Int.toNat_natCast]
  omega

set_option maxRecDepth 100000 in
set_option maxHeartbeats 2000000 in
theorem carry8_any (v : Value) (a : List Nat) (n : Nat) (M : Int) (hM : M = (n : Int)) (hn : n ≤ 100) (hB : ∀ x ∈ a, x ≤ 1099511627776) (hl : a.length ≤ 1000000000000) (w : World) (hr : RdI .i64 w v (nI a)) :
    Calls Tryd.prog 74 #[v, .int .i64 M] w fun e w' => ∃ r L, e = .returned r ∧ a.length ≤ L ∧ n ≤ L ∧ dv a < 256 ^ L ∧ (∀ m, a.length ≤ m → n ≤ m → dv a < 256 ^ m → L ≤ m) ∧ NewI .i64 3 w r (nI (dgN (dv a) L)) w' := by
  obtain ⟨S8, -⟩ := ms8_is
  subst hM
  have HX : Hid (dv a < 256 ^ (a.length + 6)) := by
    have h1 := dv_le _ a hB
    have h2 : 0 < 256 ^ a.length := Nat.pow_pos (by decide)
    show _ < _
    rw [Nat.pow_add]
    generalize 256 ^ a.length = q at h1 h2 ⊢
    omega
  have HB : Hid (∀ x ∈ a, x ≤ 1099511627776) := hB
  have HR : Hid (RdI .i64 w v (nI a)) := hr
  obtain ⟨av, cap, rfl, h2, h3, h4, -⟩ := id hr
  rw [nI_length] at h2 HR ⊢
  unfold maxLen at h3
  clear hB hr h4
  go_enter Tryd.func74, Tryd.ntmps74
  go_wp2
  go_loopw [5, 6, 7] (fun o cv iv wr => ∃ i c : Nat, iv = .int .i64 (i : Int) ∧ cv = .int .i64 (c : Int) ∧ c ≤ 8589934592 ∧ i ≤ 1000000000200 ∧ Hid (c = dv (a.take i) / 256 ^ i) ∧ Hid (i ≤ a.length ∨ i ≤ n ∨ 256 ^ (i - 1) ≤ dv a) ∧ NewI .i64 3 w o (nI (dgN (dv (a.take i)) i)) wr) (fun _ cv iv _ => S8.f a.length n (intOf iv) (intOf cv))
  case atStart => exact ⟨0, 0, rfl, rfl, by omega, by omega, by simp [Hid, dv], by simp [Hid], NewI.start w⟩
  case round =>
    obtain ⟨i, c, rfl, rfl, hc, hi, HC, HI, hN⟩ := hrel
    by_cases hlt : i < a.length
    · have hd : decide ((i : Int) < (a.length : Int)) = true := decide_eq_true (by omega)
      have hiI : (i : Int) < a.length := by omega
      obtain ⟨b, off, cp, ev, -, hcell, -⟩ := (HR.out.kept hN.2).cellAt (i := i) (by rw [nI_length]; exact hlt)
      simp only [Value.slice.injEq] at ev
      obtain ⟨rfl, -, rfl⟩ := ev
      rw [nI_get] at hcell
      have hy := getD_le HB.out i
      have HT : Hid _ := dv_take_succ a i hlt
      generalize a.getD i 0 = y at hcell hy HT
      obtain ⟨t, ht⟩ : ∃ t : Nat, t = c + y := ⟨_, rfl⟩
      obtain ⟨q, d, hq, hdd, e1, e2, e3, e4, hqb, e5⟩ := digit_facts t (by omega)
      have e0 : IntKind.i64.wrap ((c : Int) + (y : Int)) = (t : Int) := by rw [show (c : Int) + (y : Int) = (t : Int) by omega]; exact e5
      have HS : Hid (q = dv (a.take (i + 1)) / 256 ^ (i + 1) ∧ nI (dgN (dv (a.take (i + 1))) (i + 1)) = nI (dgN (dv (a.take i)) i) ++ [(d : Int)]) := by
        rw [HT.out]
        exact carry_next _ _ _ _ _ _ HC.out (by rw [hq, ht]) (by rw [hdd, ht])
      have HL : Hid _ := dgN_len8 (dv (a.take i)) i
      have hL : RdI .i64 (wr.alloc (.cells #[.int .i64 (d : Int)] 3)) (.slice (some ⟨wr.heap.size, 0, none⟩) 1 1) [(d : Int)] := lit1I8 _
      clear hq hdd ht HC HT
      go_wp2_with (at_builtin; go_must (refine wpList_append_newI (k := .i64) (w := w) rfl _ _ 68 rfl 3 Tryd.underlying68 8 infoI8 _ _ rfl (hN.alloc _) _ _ rfl hL (by rw [HL.out]; simp; omega) (by rw [HL.out]; simp; omega) ?_))
      intro v' w3 hN3 _
      rw [← HS.out.2] at hN3
      clear hN hL
      go_wp2
      go_roundw
      case rel => exact ⟨i + 1, q, by go_num, rfl, hqb, by omega, HS.out.1, .inl (by omega), hN3⟩
      case measure => exact ms8_in S8 hlt hqb
    · have hti : a.take i = a := List.take_of_length_le (by omega)
      rw [hti] at HC hN
      have hd : decide ((i : Int) < (a.length : Int)) = false := decide_eq_false (by omega)
      have hiI : (a.length : Int) ≤ i := by omega
      by_cases hcont : 0 < c ∨ i < n
      · have hi2 : i ≤ 1000000000100 := by
          rcases hcont with h | h
          · have hle : 256 ^ i ≤ dv a := by
              have := HC.out
              rcases Nat.lt_or_ge (dv a) (256 ^ i) with h' | h'
              · rw [Nat.div_eq_of_lt h'] at this; omega
              · exact h'
            have hi6 := pow256_lt hle HX.out
            omega
          · omega
        have HLE : Hid (i + 1 ≤ a.length ∨ i + 1 ≤ n ∨ 256 ^ (i + 1 - 1) ≤ dv a) := by
          rcases hcont with h | h
          · refine .inr (.inr ?_)
            have := HC.out
            rcases Nat.lt_or_ge (dv a) (256 ^ i) with h' | h'
            · rw [Nat.div_eq_of_lt h'] at this; omega
            · exact h'
          · exact .inr (.inl (by omega))
        obtain ⟨q, dd, hq, hdd, e1, e2, e3, e4, hqb, e5⟩ := digit_facts c (by omega)
        have hmeas : Hid _ := ms8_out S8 (l := a.length) hlt hqb hq hcont
        have HS : Hid (q = dv a / 256 ^ (i + 1) ∧ nI (dgN (dv a) (i + 1)) = nI (dgN (dv a) i) ++ [(dd : Int)]) := by
          have h := carry_next (dv a) 0 c i q dd HC.out (by rw [Nat.add_zero]; exact hq) (by rw [Nat.add_zero]; exact hdd)
          rw [Nat.mul_zero, Nat.add_zero] at h
          exact h
        have HL : Hid _ := dgN_len8 (dv a) i
        have HTI : Hid (a.take (i + 1) = a) := by show _ = _; exact List.take_of_length_le (by omega)
        by_cases hc0 : 0 < c
        · have hL : RdI .i64 (wr.alloc (.cells #[.int .i64 (dd : Int)] 3)) (.slice (some ⟨wr.heap.size, 0, none⟩) 1 1) [(dd : Int)] := lit1I8 _
          have hd2 : decide ((0 : Int) < (c : Int)) = true := decide_eq_true (by omega)
          have hcI : (0 : Int) < c := by omega
          clear hq hdd HC hcont hc0
          go_wp2_with (at_builtin; go_must (refine wpList_append_newI (k := .i64) (w := w) rfl _ _ 68 rfl 3 Tryd.underlying68 8 infoI8 _ _ rfl (hN.alloc _) _ _ rfl hL (by rw [HL.out]; simp; omega) (by rw [HL.out]; simp; omega) ?_))
          intro v' w3 hN3 _
          rw [← HS.out.2] at hN3
          clear hN hL
          go_wp2
          go_roundw
          case rel => exact ⟨i + 1, q, by go_num, rfl, hqb, by omega, by rw [HTI.out]; exact HS.out.1, HLE, by rw [HTI.out]; exact hN3⟩
          case measure => exact hmeas.out
        · have h00 : c = 0 := by omega
          subst h00
          have hq0 : q = 0 := by omega
          have hd0 : dd = 0 := by omega
          subst hq0
          subst hd0
          have hL : RdI .i64 (wr.alloc (.cells #[.int .i64 0] 3)) (.slice (some ⟨wr.heap.size, 0, none⟩) 1 1) [0] := lit1I8 _
          have hin : i < n := by omega
          have hd3 : decide ((i : Int) < (n : Int)) = true := decide_eq_true (by omega)
          have hinI : (i : Int) < (n : Int) := by omega
          have hS2 : Hid (nI (dgN (dv a) (i + 1)) = nI (dgN (dv a) i) ++ [(0 : Int)]) := HS.out.2
          clear hq hdd HC hcont hc0 e1 e2 e3 e4 e5
          go_wp2_with (at_builtin; go_must (refine wpList_append_newI (k := .i64) (w := w) rfl _ _ 68 rfl 3 Tryd.underlying68 8 infoI8 _ _ rfl (hN.alloc _) _ _ rfl hL (by rw [HL.out]; simp; omega) (by rw [HL.out]; simp; omega) ?_))
          intro v' w3 hN3 _
          rw [← hS2.out] at hN3
          clear hN hL
          go_wp2
          go_roundw
          case rel => exact ⟨i + 1, 0, by go_num, rfl, by omega, by omega, by rw [HTI.out]; exact HS.out.1, HLE, by rw [HTI.out]; exact hN3⟩
          case measure => exact hmeas.out
      · have hc0 : c = 0 := by omega
        subst hc0
        have hin : ¬ i < n := fun h => hcont (.inr h)
        have hd2 : decide ((i : Int) < (n : Int)) = false := decide_eq_false (by omega)
        have hinI : (n : Int) ≤ (i : Int) := by omega
        have HE : Hid (a.length ≤ i ∧ n ≤ i ∧ dv a < 256 ^ i ∧ ∀ m, a.length ≤ m → n ≤ m → dv a < 256 ^ m → i ≤ m) := by
          refine ⟨by omega, by omega, ?_, fun m h1 h2 h3 => ?_⟩
          · rcases Nat.lt_or_ge (dv a) (256 ^ i) with h | h
            · exact h
            · have := Nat.div_pos h (Nat.pow_pos (by decide))
              have h2 := HC.out
              omega
          · rcases HI.out with h | h | h
            · omega
            · omega
            · have := pow256_lt h h3
              omega
        clear HC HI hcont
        go_wp2
        go_ret
        exact ⟨_, i, rfl, HE.out.1, HE.out.2.1, HE.out.2.2.1, HE.out.2.2.2, hN⟩
end Go.Proofs.YtliiofjcghdjoaaDoor

/- What the document's own clamping of a key is: a contract of the reference of layer 8. -/
namespace Go.Proofs.YtliiofjcghdjoaaDoor
open Go.ChangeShapes Go.WideShapes Go.ChangeAt Go.RowKit
set_option linter.unusedSimpArgs false
set_option linter.unusedVariables false

theorem infoU88 : (Tryd.prog.info? 5).map (fun i => (i.zero, i.size, i.bytes)) = some (some (.int .u8 0), 1, 1) := by kernel_rfl
theorem New.store8 {e : TypeId} {w wr : World} {v : Value} {l : List UInt8} (h : New e w v l wr) {j : Nat} (hj : j < l.length) :
    ∃ g cap, v = .slice (some ⟨g, 0, none⟩) l.length cap ∧ l.length ≤ cap ∧ wr.cell? ⟨g, j, none⟩ = some (.int .u8 ((l.getD j 0).toNat : Int)) ∧ wr.frozen? ⟨g, j, none⟩ = false ∧
      ∀ u : UInt8, New e w v (l.set j u) (wr.setCell ⟨g, j, none⟩ (.int .u8 ((u.toNat : Nat) : Int))) := by
  obtain ⟨a, c, rfl, hc, -, -, -⟩ := id h.rd
  obtain ⟨g, rfl, hge, -, hcell, hfree, hset⟩ := own_at rfl h.1 hj
  exact ⟨g, c, rfl, hc, hcell, hfree, fun u => ⟨hset u _ rfl, h.2.setCell hge _⟩⟩
/-- The first loop's row behind j rounds, and the second's. -/
def cl1 (k : List UInt8) : Nat → List UInt8
  | 0 => k.take 16
  | j + 1 => (cl1 k j).set (4 * j + 3) (UInt8.ofNat (((cl1 k j).getD (4 * j + 3) 0).toNat % 16))
def cl2 (k : List UInt8) : Nat → List UInt8
  | 0 => cl1 k 4
  | j + 1 => (cl2 k j).set (4 * j + 4) (UInt8.ofNat (((cl2 k j).getD (4 * j + 4) 0).toNat / 4 * 4))
theorem cl1_length (k : List UInt8) (h : k.length = 32) : ∀ j, (cl1 k j).length = 16
  | 0 => by simp [cl1, h]
  | j + 1 => by simp [cl1, cl1_length k h j]
theorem cl2_length (k : List UInt8) (h : k.length = 32) : ∀ j, (cl2 k j).length = 16
  | 0 => cl1_length k h 4
  | j + 1 => by simp [cl2, cl2_length k h j]
theorem sixteen {l : List UInt8} (h : l.length = 16) : ∃ a b c d e f g i j k m n o p q r, l = [a, b, c, d, e, f, g, i, j, k, m, n, o, p, q, r] := by
  match l, h with
  | [a, b, c, d, e, f, g, i, j, k, m, n, o, p, q, r], _ => exact ⟨a, b, c, d, e, f, g, i, j, k, m, n, o, p, q, r, rfl⟩
theorem clP_take (k : List UInt8) : clP (k.take 16) = clP k := by
  unfold clP
  refine List.map_congr_left fun i hi => ?_
  have h : (k.take 16).getD i 0 = k.getD i 0 := by
    have := List.mem_range.1 hi
    simp [List.getElem?_take, this]
  simp only [h]
theorem cl2_done (k : List UInt8) (h : k.length = 32) : cl2 k 3 = clP k := by
  rw [← clP_take]
  obtain ⟨a, b, c, d, e, f, g, i, j, m, n, o, p, q, r, s, e0⟩ := sixteen (l := k.take 16) (by simp [h])
  unfold cl2 cl2 cl2 cl2 cl1 cl1 cl1 cl1 cl1
  rw [e0]
  rfl
/-- One byte less its upper or its lower bits. -/
theorem low4 (u : UInt8) : ∃ q : Nat, q = u.toNat % 16 ∧ ((u.toNat : Nat) : Int).tmod 16 = (q : Int) ∧ IntKind.u8.wrap (q : Int) = (q : Int) ∧ (((UInt8.ofNat q).toNat : Nat) : Int) = (q : Int) := by
  have := u.toNat_lt
  refine ⟨_, rfl, ?_, ?_, ?_⟩
  · rw [Int.tmod_eq_emod_of_nonneg (by omega)]; omega
  · rw [IntKind.wrap_u8]; omega
  · rw [UInt8.toNat_ofNat']; omega
theorem off2 (u : UInt8) : ∃ q p : Nat, p = u.toNat / 4 * 4 ∧ ((u.toNat : Nat) : Int).tdiv 4 = (q : Int) ∧ IntKind.u8.wrap (q : Int) = (q : Int) ∧ IntKind.u8.wrap ((q : Int) * 4) = (p : Int) ∧ (((UInt8.ofNat p).toNat : Nat) : Int) = (p : Int) := by
  have := u.toNat_lt
  refine ⟨u.toNat / 4, _, rfl, ?_, ?_, ?_, ?_⟩
  · rw [Int.tdiv_eq_ediv_of_nonneg (by omega)]; omega
  · rw [IntKind.wrap_u8]; omega
  · rw [IntKind.wrap_u8]; omega
  · rw [UInt8.toNat_ofNat']; omega

set_option maxRecDepth 100000 in
set_option maxHeartbeats 1000000 in
theorem clamp8_any (vk : Value) (k : List UInt8) (hk : k.length = 32) (w : World) (hr : Rd w vk k) :
    Calls Tryd.prog 73 #[vk] w fun e w' => ∃ r, e = .returned r ∧ New 5 w r (clP k) w' := by
  obtain ⟨ak, ck, rfl, hck, hmk, -, -⟩ := id hr
  unfold maxLen at hmk
  have HK : Hid (k.length = 32) := hk
  have hr2 := Rd.take hr (n := 16) (by rw [hk]; decide)
  have HL : Hid (([] : List UInt8).length + (k.take 16).length ≤ 140737488355328) := by show _ ≤ _; simp [hk]
  rw [hk] at hck ⊢
  have hN0 : New 5 w (.slice none 0 0) [] w := New.start w
  clear hk hr
  go_enter Tryd.func73, Tryd.ntmps73
  go_wp2_with (at_builtin; go_must (refine wpList_append_new (w := w) rfl _ _ 40 rfl 5 Tryd.underlying40 infoU88 _ _ rfl hN0 _ _ rfl hr2 HL.out ?_))
  intro v1 w1 hN1 _
  have hN1' : New 5 w v1 (cl1 k 0) w1 := hN1
  clear hN1 hN0 hr2
  obtain ⟨g, c, rfl, hc, -, -, -⟩ := hN1'.store8 (j := 0) (by rw [cl1_length k HK.out]; decide)
  rw [cl1_length k HK.out] at hc hN1' ⊢
  go_wp2
  go_loopw [4] (fun iv wr => ∃ j : Nat, iv = .int .i64 ((4 * j + 3 : Nat) : Int) ∧ j ≤ 4 ∧ New 5 w (.slice (some ⟨g, 0, none⟩) 16 c) (cl1 k j) wr) (fun iv _ => 20 - (intOf iv).toNat)
  case atStart => exact ⟨0, rfl, by omega, hN1'⟩
  case round =>
    obtain ⟨j, rfl, hj, hN⟩ := hrel
    clear hN1'
    by_cases hlt : j < 4
    · obtain ⟨i, hi⟩ : ∃ i : Nat, i = 4 * j + 3 := ⟨_, rfl⟩
      obtain ⟨g', c', ev, -, hcell, hfree, hset⟩ := hN.store8 (j := i) (by rw [cl1_length k HK.out]; omega)
      simp only [Value.slice.injEq, Option.some.injEq, Addr.mk.injEq, and_true, true_and] at ev
      obtain ⟨rfl, -, rfl⟩ := ev
      obtain ⟨q, hq, e1, e2, e3⟩ := low4 ((cl1 k j).getD i 0)
      have HS := hset (UInt8.ofNat q)
      rw [e3] at HS
      have HN : Hid (New 5 w (.slice (some ⟨g, 0, none⟩) 16 c) (cl1 k (j + 1)) (wr.setCell ⟨g, i, none⟩ (.int .u8 (q : Int)))) := by
        have : cl1 k (j + 1) = (cl1 k j).set i (UInt8.ofNat q) := by rw [hq, hi]; rfl
        rw [this]
        exact HS
      rw [← hi]
      have hd : decide ((i : Int) < 16) = true := decide_eq_true (by omega)
      have hiI : (i : Int) < 16 := by omega
      have HI : Hid (i = 4 * j + 3) := hi
      generalize ((cl1 k j).getD i 0).toNat = t at hcell e1
      clear hset HS hq hN e3 hi
      go_wp2
      go_roundw
      case rel => exact ⟨j + 1, by rw [HI.out]; go_num, by omega, HN.out⟩
      case measure => have := HI.out; simp [intOf]; omega
    · have hj4 : j = 4 := by omega
      subst hj4
      have hN2 : New 5 w (.slice (some ⟨g, 0, none⟩) 16 c) (cl2 k 0) wr := hN
      clear hN
      go_wp2
      go_loopw [5] (fun iv wr => ∃ j : Nat, iv = .int .i64 ((4 * j + 4 : Nat) : Int) ∧ j ≤ 3 ∧ New 5 w (.slice (some ⟨g, 0, none⟩) 16 c) (cl2 k j) wr) (fun iv _ => 20 - (intOf iv).toNat)
      case atStart => exact ⟨0, rfl, by omega, hN2⟩
      case round =>
        obtain ⟨j, rfl, hj, hN⟩ := hrel
        rename World => WC
        clear hN2
        by_cases hlt : j < 3
        · obtain ⟨i, hi⟩ : ∃ i : Nat, i = 4 * j + 4 := ⟨_, rfl⟩
          obtain ⟨g', c', ev, -, hcell, hfree, hset⟩ := hN.store8 (j := i) (by rw [cl2_length k HK.out]; omega)
          simp only [Value.slice.injEq, Option.some.injEq, Addr.mk.injEq, and_true, true_and] at ev
          obtain ⟨rfl, -, rfl⟩ := ev
          obtain ⟨p, q, hq, e1, e2, e4, e3⟩ := off2 ((cl2 k j).getD i 0)
          have HS := hset (UInt8.ofNat q)
          rw [e3] at HS
          have HN : Hid (New 5 w (.slice (some ⟨g, 0, none⟩) 16 c) (cl2 k (j + 1)) (WC.setCell ⟨g, i, none⟩ (.int .u8 (q : Int)))) := by
            have : cl2 k (j + 1) = (cl2 k j).set i (UInt8.ofNat q) := by rw [hq, hi]; rfl
            rw [this]
            exact HS
          rw [← hi]
          have hd : decide ((i : Int) < 16) = true := decide_eq_true (by omega)
          have hiI : (i : Int) < 16 := by omega
          have HI : Hid (i = 4 * j + 4) := hi
          generalize ((cl2 k j).getD i 0).toNat = t at hcell e1
          clear hset HS hq hN e3 hi
          go_wp2
          go_roundw
          case rel => exact ⟨j + 1, by rw [HI.out]; go_num, by omega, HN.out⟩
          case measure => have := HI.out; simp [intOf]; omega
        · have hj3 : j = 3 := by omega
          subst hj3
          rw [cl2_done k HK.out] at hN
          go_wp2
          go_ret
          exact ⟨_, rfl, hN⟩
theorem clamp8_none (vk : Value) (k : List UInt8) (hk : k.length ≠ 32) (w : World) (hr : Rd w vk k) :
    Calls Tryd.prog 73 #[vk] w fun e w' => e = .returned (.slice none 0 0) ∧ w' = w := by
  obtain ⟨ak, ck, rfl, hck, hmk, -, -⟩ := id hr
  have hne : ((k.length : Int) != 32) = true := by simp; omega
  clear hr hk
  go_enter Tryd.func73, Tryd.ntmps73
  go_wp2
  go_ret
  exact ⟨rfl, rfl⟩
end Go.Proofs.YtliiofjcghdjoaaDoor
