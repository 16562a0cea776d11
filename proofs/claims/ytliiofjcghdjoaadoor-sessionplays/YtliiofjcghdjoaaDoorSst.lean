/- What functions of the program, or of the reference, answer: contracts; several texts in one. -/
import Derived.Test.YtliiofjcghdjoaaDoorSmt
import Derived.Test.YtliiofjcghdjoaaDoorRows
import Derived.Test.YtliiofjcghdjoaaDoorBase
import Derived.OwnWalk
import Derived.Deep.QuietTactic
import Derived.BigQuiet
import Derived.WalkSpells
import Derived.RegionTactic
import Derived.BigRegion
import Derived.Lib.MinMax

/- How long it takes till a message is said again, and timers: contracts of package session, first part. -/
namespace Go.Proofs.YtliiofjcghdjoaaDoor
open Go.ChangeShapes Go.WideShapes Go.ChangeAt Go.RowKit
set_option linter.unusedSimpArgs false
set_option linter.unusedVariables false

theorem csince_any (t n : Nat) (ht : t < 18446744073709551616) (hn : n < 18446744073709551616) (w : World) :
    Calls Tryd.prog 27 #[.int .u64 (t : Int), .int .u64 (n : Int)] w fun e w' => e = .returned (.int .u64 ((snN t n : Nat) : Int)) ∧ w' = w := by
  obtain ⟨q, hq⟩ : ∃ q : Nat, q = min t n := ⟨_, rfl⟩
  have hm1 : min (t : Int) (n : Int) = (q : Int) := by omega
  obtain ⟨D, hD⟩ : ∃ D : Nat, D = n - q := ⟨_, rfl⟩
  have HE : Hid (snN t n = D) := (by unfold snN; split <;> omega : snN t n = D)
  have e2 : IntKind.u64.wrap ((n : Int) - (q : Int)) = (D : Int) := by rw [IntKind.wrap_u64]; omega
  clear hq hD
  go_enter Tryd.func27, Tryd.ntmps27
  go_wp2
  go_ret
  exact ⟨retI (by rw [HE.out]), rfl⟩

set_option maxRecDepth 100000 in
set_option maxHeartbeats 4000000 in
theorem cwait_any (r : Rl) (hr : RlW r) (n : Int) (hn : n ≤ 9223372036854775807) (A : Array Value) (hA : A = (rlC r).toArray) (w : World) :
    Calls Tryd.prog 9 #[.agg A, .int .i64 n] w fun e w' => e = .returned (.int .u64 ((wtN r n : Nat) : Int)) ∧ Below w.heap.size w w' := by
  have HA : Hid (A = (rlC r).toArray) := hA
  obtain ⟨d, hd⟩ : ∃ d : Nat, d = n.toNat := ⟨_, rfl⟩
  have hmx : max n 0 = (d : Int) := by omega
  have hmx2 : max 0 n = (d : Int) := by omega
  have HG : Hid (moN r / 2 ^ d < w0N r → wtN r n = moN r) := (by rw [hd]; exact wt_gt r n : moN r / 2 ^ d < w0N r → wtN r n = moN r)
  have HL : Hid (¬ moN r / 2 ^ d < w0N r → wtN r n = w0N r * 2 ^ d ∧ w0N r * 2 ^ d ≤ moN r) := (by rw [hd]; exact wt_le2 r n : ¬ moN r / 2 ^ d < w0N r → wtN r n = w0N r * 2 ^ d ∧ w0N r * 2 ^ d ≤ moN r)
  have HF : Hid (w0N r * 2 ^ d ≤ moN r → d < 64) := fun h => wt_few r hr h
  have hlt := moN_lt hr
  have hge := moN_ge r
  have h0w : w0N r = if r.retry = 0 then 1 else r.retry := rfl
  have h0m : moN r = if r.rmax < w0N r then w0N r else r.rmax := rfl
  obtain ⟨R0, hR0⟩ : ∃ x, x = r.retry := ⟨_, rfl⟩
  obtain ⟨R1, hR1⟩ : ∃ x, x = r.rmax := ⟨_, rfl⟩
  obtain ⟨Z, hZ⟩ : ∃ x, x = wtN r n := ⟨_, rfl⟩
  rw [← hZ] at HG HL ⊢
  have HCl : Hid (rlC r = [.int .u64 (R0 : Int), .int .u64 (R1 : Int), .int .i64 r.tries, .int .u64 (r.rekey : Int), .int .u64 (r.expire : Int), .int .u64 (r.rcount : Int), .int .u64 (r.ecount : Int)]) := (by rw [hR0, hR1]; rfl : rlC r = _)
  rw [← hR0] at h0w
  rw [← hR1] at h0m
  generalize w0N r = W0 at HG HL HF h0w h0m hge
  generalize moN r = MO at HG HL HF h0m hge hlt
  have m1 : max (R0 : Int) 1 = (W0 : Int) := by split at h0w <;> omega
  have m2 : max (R1 : Int) (W0 : Int) = (MO : Int) := by split at h0m <;> omega
  obtain ⟨Q, hQ⟩ : ∃ Q, Q = MO / 2 ^ d := ⟨_, rfl⟩
  have hs : ∀ yk, Op.shift .shr .u64 (MO : Int) yk (d : Int) = pure (.int .u64 (Q : Int)) := fun yk => by
    rw [shift_shr_any _ _ _ _ (by omega)]
    have e1 : min ((d : Int)).toNat IntKind.u64.bits = min d 64 := by show min ((d : Int)).toNat 64 = _; omega
    rw [e1, hQ, ← half_min hlt]
    simp
  rw [← hQ] at HG HL
  clear hA hr hR0 hR1 hZ hd h0w h0m hQ
  go_enter Tryd.func9, Tryd.ntmps9
  go_wp2_with (refine wpList_box_blk rfl 24 _ rfl (rlC r) (by rw [← HA.out]; rfl) ?_)
  intro w1 r1 b1 s1
  obtain ⟨g, hg⟩ : ∃ n : Nat, n = w.heap.size := ⟨_, rfl⟩
  rw [← hg] at r1 ⊢
  rw [HCl.out] at r1
  have c0 : w1.cell? ⟨g, 0, none⟩ = some (.int .u64 (R0 : Int)) := r1.cell 0
  have c1 : w1.cell? ⟨g, 1, none⟩ = some (.int .u64 (R1 : Int)) := r1.cell 1
  have HB : Hid (Below w.heap.size w w1) := b1
  have HLt : Hid (MO < 18446744073709551616) := hlt
  clear r1 b1 s1 hg HA HCl
  by_cases h : Q < W0
  · have d1 : decide ((Q : Int) < (W0 : Int)) = true := decide_eq_true (by omega)
    have d2 : decide (Q < W0) = true := decide_eq_true h
    have HZ : Hid (Z = MO) := HG.out h
    clear h HG HL hlt hge
    go_wp2
    go_ret
    exact ⟨retI (by rw [HZ.out]), HB.out⟩
  · have d1 : decide ((Q : Int) < (W0 : Int)) = false := decide_eq_false (by omega)
    have d2 : decide (Q < W0) = false := decide_eq_false h
    obtain ⟨hz, hle⟩ := HL.out h
    have h64 := HF.out hle
    have HZ : Hid (Z = W0 * 2 ^ d) := hz
    obtain ⟨Y, hY⟩ : ∃ Y, Y = W0 * 2 ^ d := ⟨_, rfl⟩
    have HY : Hid (Y = W0 * 2 ^ d) := hY
    rw [← hY] at hle
    have hs2 : ∀ yk, Op.shift .shl .u64 (W0 : Int) yk (d : Int) = pure (.int .u64 (Y : Int)) := fun yk => by
      rw [shift_shl_any _ _ _ _ (by omega)]
      have e1 : min ((d : Int)).toNat IntKind.u64.bits = d := by show min ((d : Int)).toNat 64 = _; omega
      have e2 : (W0 : Int) * 2 ^ d = (Y : Int) := by rw [hY]; simp
      rw [e1, e2, IntKind.wrap_u64, Int.emod_eq_of_lt (by omega) (by omega)]
    clear h HG HL hlt hge hz hle h64 hY
    go_wp2
    go_ret
    exact ⟨retI (by rw [HZ.out, HY.out]), HB.out⟩
end Go.Proofs.YtliiofjcghdjoaaDoor

/- Timers: contracts of package session, second part. -/
namespace Go.Proofs.YtliiofjcghdjoaaDoor
open Go.ChangeShapes Go.WideShapes Go.ChangeAt Go.RowKit
set_option linter.unusedSimpArgs false
set_option linter.unusedVariables false

/-- A timer's cells: rules, when it was said, how often again. -/
def tiC (r : Rl) (last : Nat) (tries : Int) : List Value := [.int .u64 (r.retry : Int), .int .u64 (r.rmax : Int), .int .i64 r.tries, .int .u64 (r.rekey : Int), .int .u64 (r.expire : Int), .int .u64 (r.rcount : Int), .int .u64 (r.ecount : Int), .int .u64 (last : Int), .int .i64 tries]
theorem info_rl : (Tryd.prog.info? 24).map (·.size) = some 7 := by kernel_rfl
theorem build_ti (r0 r1 : Nat) (r2 : Int) (r3 r4 r5 r6 n : Nat) (w : World) : (Instr.build 73 #[(0, .agg #[.int .u64 (r0 : Int), .int .u64 (r1 : Int), .int .i64 r2, .int .u64 (r3 : Int), .int .u64 (r4 : Int), .int .u64 (r5 : Int), .int .u64 (r6 : Int)]), (1, .int .u64 (n : Int))]).run Tryd.prog w = .ok (.agg #[.int .u64 (r0 : Int), .int .u64 (r1 : Int), .int .i64 r2, .int .u64 (r3 : Int), .int .u64 (r4 : Int), .int .u64 (r5 : Int), .int .u64 (r6 : Int), .int .u64 (n : Int), .int .i64 0]) w := by kernel_rfl
theorem below_drewN22 {B : Nat} {w wr : World} (h : Below B w wr) : ∀ n, Below B w (wr.drewN n)
  | 0 => h
  | n + 1 => (below_drewN22 h n).drew
theorem retB22s {b c : Bool} (h : c = b) : Ending.returned (.bool b) = Ending.returned (.bool c) := by rw [h]

set_option maxRecDepth 100000 in
set_option maxHeartbeats 4000000 in
theorem cstart_any (r : Rl) (now : Nat) (A : Array Value) (hA : A = (rlC r).toArray) (w : World) :
    Calls Tryd.prog 11 #[.agg A, .int .u64 (now : Int)] w fun e w' => ∃ g, e = .returned (.pointer (some ⟨g, 0, none⟩)) ∧ w.heap.size ≤ g ∧ BlkAt g 73 (tiC r now 0) w' ∧ Below w.heap.size w w' := by
  have HA : Hid (A = (rlC r).toArray) := hA
  clear hA
  go_enter Tryd.func11, Tryd.ntmps11
  go_wp2_with (refine wpList_box_blk rfl 24 _ rfl (rlC r) (by rw [← HA.out]; rfl) ?_)
  intro w1 r1 b1 s1
  obtain ⟨g, hg⟩ : ∃ n : Nat, n = w.heap.size := ⟨_, rfl⟩
  rw [← hg] at r1 ⊢
  have R1 : Hid (BlkAt g 24 (rlC r) w1) := r1
  have HB : Hid (Below w.heap.size w w1) := b1
  have HS : Hid (g ≤ w1.heap.size) := (by rw [hg]; exact b1.size : g ≤ w1.heap.size)
  clear r1 b1 s1 HA
  go_wp2_with (first | refine wpList_load_part rfl 24 _ rfl rfl [] (rlC r) [] R1.out (by simp) rfl Tryd.underlying24 rfl info_rl ?_ | refine wpList_buildB rfl 73 _ rfl #[(0, .agg (rlC r).toArray), (1, .int .u64 (now : Int))] (by go_simp; done) _ (build_ti _ _ _ _ _ _ _ _ _) ?_ | refine wpList_box_blk rfl 73 _ rfl (tiC r now 0) rfl ?_)
  intro w2 r2 b2 s2
  have H2 : Hid (BlkAt w1.heap.size 73 (tiC r now 0) w2 ∧ Below w.heap.size w w2) := ⟨r2, stepB HB.out b2⟩
  clear r2 b2 s2
  go_wp2
  go_ret
  exact ⟨_, rfl, HB.out.size, H2.out.1, H2.out.2⟩

set_option maxRecDepth 100000 in
set_option maxHeartbeats 4000000 in
theorem cdue_any (g : Nat) (r : Rl) (hr : RlW r) (last : Nat) (tries : Int) (now : Nat) (hl : last < 18446744073709551616) (ht : tries ≤ 9223372036854775807) (hn : now < 18446744073709551616) (w : World) (hB : BlkAt g 73 (tiC r last tries) w) :
    Calls Tryd.prog 13 #[.pointer (some ⟨g, 0, none⟩), .int .u64 (now : Int)] w fun e w' => e = .returned (.bool (duB r last tries now)) ∧ Below w.heap.size w w' := by
  have HB : Hid (BlkAt g 73 (tiC r last tries) w) := hB
  have HR : Hid (RlW r) := hr
  have HL : Hid (last < 18446744073709551616) := hl
  have HN : Hid (now < 18446744073709551616) := hn
  have HT : Hid (tries ≤ 9223372036854775807) := ht
  have HD : Hid (duB r last tries now = decide (wtN r tries ≤ snN last now)) := rfl
  obtain ⟨G, hG⟩ : ∃ G, G = duB r last tries now := ⟨_, rfl⟩
  rw [← hG] at HD ⊢
  clear hB hr hl hn hG ht
  obtain ⟨x, hx⟩ : ∃ x, x = snN last now := ⟨_, rfl⟩
  obtain ⟨y, hy⟩ : ∃ y, y = wtN r tries := ⟨_, rfl⟩
  rw [← hx, ← hy] at HD
  have HX : Hid (x = snN last now) := hx
  have HY : Hid (y = wtN r tries) := hy
  have dI : decide ((y : Int) ≤ (x : Int)) = G := by rw [HD.out]; exact decide_eq_decide.2 (by omega)
  have dN : decide (y ≤ x) = G := by rw [HD.out]
  clear hx hy
  go_enter Tryd.func13, Tryd.ntmps13
  go_wp2_with fail
  refine wpG_begin (by kernel_rfl) ?_
  refine gU_ 0 rfl ⟨_, by intro W hW; go_simp <;> with_reducible rfl, ?_⟩
  try simp only [Act.put, pA_, pB_, pC_]
  refine gU_ 1 rfl ⟨_, by intro W hW; go_simp <;> with_reducible rfl, ?_⟩
  try simp only [Act.put, pA_, pB_, pC_]
  refine gU_ 2 rfl ⟨_, by intro W hW; go_simp <;> with_reducible rfl, ?_⟩
  try simp only [Act.put, pA_, pB_, pC_]
  refine gU_ 3 rfl ⟨_, by intro W hW; go_simp <;> with_reducible rfl, ?_⟩
  try simp only [Act.put, pA_, pB_, pC_]
  refine gU_ 4 rfl ⟨_, by intro W hW; go_simp <;> with_reducible rfl, ?_⟩
  try simp only [Act.put, pA_, pB_, pC_]
  refine gU_ 5 rfl ⟨_, by intro W hW; go_simp <;> with_reducible rfl, ?_⟩
  try simp only [Act.put, pA_, pB_, pC_]
  refine gU_ 6 rfl ⟨_, by intro W hW; have cW : W.cell? ⟨g, 7, none⟩ = some (.int .u64 (last : Int)) := (HB.out.drew.kept hW).cell 7; go_simp <;> with_reducible rfl, ?_⟩
  try simp only [Act.put, pA_, pB_, pC_]
  refine gU_ 7 rfl ⟨_, by intro W hW; go_simp <;> with_reducible rfl, ?_⟩
  try simp only [Act.put, pA_, pB_, pC_]
  refine gU_ 9 rfl ⟨_, by intro W hW; go_simp <;> with_reducible rfl, ?_⟩
  try simp only [Act.put, pA_, pB_, pC_]
  refine gU_ 10 rfl ⟨_, by intro W hW; go_simp <;> with_reducible rfl, ?_⟩
  try simp only [Act.put, pA_, pB_, pC_]
  refine gU_ 11 rfl ⟨_, by intro W hW; go_simp <;> with_reducible rfl, ?_⟩
  try simp only [Act.put, pA_, pB_, pC_]
  refine gU_ 12 rfl ⟨_, by intro W hW; refine Eq.trans (exec_load_part 24 _ (by rfl) (by rfl) [] (rlC r) [.int .u64 (last : Int), .int .i64 tries] HB.out.drew hW (by rfl) rfl Tryd.underlying24 rfl info_rl) ?_; with_reducible rfl, ?_⟩
  try simp only [Act.put, pA_, pB_, pC_]
  refine gU_ 13 rfl ⟨_, by intro W hW; go_simp <;> with_reducible rfl, ?_⟩
  try simp only [Act.put, pA_, pB_, pC_]
  refine gU_ 14 rfl ⟨_, by intro W hW; go_simp <;> with_reducible rfl, ?_⟩
  try simp only [Act.put, pA_, pB_, pC_]
  refine gU_ 15 rfl ⟨_, by intro W hW; go_simp <;> with_reducible rfl, ?_⟩
  try simp only [Act.put, pA_, pB_, pC_]
  refine gU_ 16 rfl ⟨_, by intro W hW; have cW : W.cell? ⟨g, 8, none⟩ = some (.int .i64 tries) := (HB.out.drew.kept hW).cell 8; go_simp <;> with_reducible rfl, ?_⟩
  try simp only [Act.put, pA_, pB_, pC_]
  refine gD_ 8 fun K hK => ?_
  go_simp
  refine (csince_any last now HL.out HN.out _).mono ?_
  rintro e wa ⟨rfl, rfl⟩
  rw [← HX.out]
  refine hK.out _ _ (Below.refl _ _) ?_
  clear hK K
  try simp only [Act.put, pA_, pB_, pC_]
  refine gD_ 17 fun K hK => ?_
  go_simp
  refine (cwait_any r HR.out tries HT.out _ rfl _).mono ?_
  rintro e wb ⟨rfl, bb⟩
  rw [← HY.out]
  refine hK.out _ _ bb ?_
  clear hK K
  try simp only [Act.put, pA_, pB_, pC_]
  refine gU_ 18 rfl ⟨_, by intro W hW; go_simp <;> with_reducible rfl, ?_⟩
  try simp only [Act.put, pA_, pB_, pC_]
  refine gU_ 19 rfl ⟨_, by intro W hW; go_simp <;> with_reducible rfl, ?_⟩
  try simp only [Act.put, pA_, pB_, pC_]
  refine gU_ 20 rfl ⟨_, by intro W hW; go_simp <;> with_reducible rfl, ?_⟩
  try simp only [Act.put, pA_, pB_, pC_]
  refine wpG_done (by kernel_rfl) ?_
  have HB3 : Hid (Below w.heap.size w wb) := stepB (Below.refl _ w).drew bb
  clear bb
  go_wp2
  go_ret
  exact ⟨rfl, HB3.out⟩

set_option maxRecDepth 100000 in
set_option maxHeartbeats 4000000 in
theorem cagain_any (g : Nat) (r : Rl) (last : Nat) (tries : Int) (now : Nat) (ht : -9223372036854775808 ≤ tries ∧ tries ≤ 9223372036854775807) (hr : RlW r) (w : World) (hB : BlkAt g 73 (tiC r last tries) w) :
    Calls Tryd.prog 15 #[.pointer (some ⟨g, 0, none⟩), .int .u64 (now : Int)] w fun e w' => e = .returned (.bool (agT r last tries now).2) ∧ BlkAt g 73 (tiC r (agT r last tries now).1.1 (agT r last tries now).1.2) w' ∧ Chg (fun i => i = g) w w' := by
  have HB : Hid (BlkAt g 73 (tiC r last tries) w) := hB
  have htr := hr.tries
  have HG : Hid (agT r last tries now = if r.tries ≤ tries then ((last, tries), false) else ((now, tries + 1), true)) := rfl
  obtain ⟨G, hG⟩ : ∃ G, G = agT r last tries now := ⟨_, rfl⟩
  rw [← hG] at HG ⊢
  have c8 : w.cell? ⟨g, 8, none⟩ = some (.int .i64 tries) := hB.cell 8
  have c2 : w.cell? ⟨g, 2, none⟩ = some (.int .i64 r.tries) := hB.cell 2
  obtain ⟨R2, hR2⟩ : ∃ x, x = r.tries := ⟨_, rfl⟩
  rw [← hR2] at HG htr c2
  clear hB hG hR2 hr
  by_cases h : R2 ≤ tries
  · have d : decide (R2 ≤ tries) = true := decide_eq_true h
    have hG : G = ((last, tries), false) := by rw [HG.out, if_pos h]
    subst hG
    clear h HG ht htr
    go_enter Tryd.func15, Tryd.ntmps15
    go_wp2_with (go_quiet (fail))
    go_wp2
    go_ret
    have bq := below_drewN22 (Below.refl w.heap.size w) nq
    exact ⟨rfl, HB.out.kept bq, Chg.of_below bq⟩
  · have d : decide (R2 ≤ tries) = false := decide_eq_false h
    have hG : G = ((now, tries + 1), true) := by rw [HG.out, if_neg h]
    subst hG
    have hwr : IntKind.i64.wrap (tries + 1) = tries + 1 := by rw [IntKind.wrap_i64]; omega
    have c7 : w.cell? ⟨g, 7, none⟩ = some (.int .u64 (last : Int)) := HB.out.cell 7
    have f7 := HB.out.free 7
    have f8 := HB.out.free 8
    clear h HG ht htr
    go_enter Tryd.func15, Tryd.ntmps15
    go_wp2_with (go_quiet (fail))
    go_wp2
    go_ret
    have bq := below_drewN22 (Below.refl w.heap.size w) nq
    have hB1 := HB.out.kept bq
    generalize w.drewN nq = w1 at bq hB1 ⊢
    have hB2 : BlkAt g 73 (tiC r now tries) (w1.setCell ⟨g, 7, none⟩ (.int .u64 (now : Int))) := hB1.set 7 _
    have hB3 : BlkAt g 73 (tiC r now (tries + 1)) ((w1.setCell ⟨g, 7, none⟩ (.int .u64 (now : Int))).setCell ⟨g, 8, none⟩ (.int .i64 (tries + 1))) := hB2.set 8 _
    exact ⟨rfl, hB3, ((Chg.of_below bq).trans (Chg.of_wrote (Wrote.set g 7 w1 (.int .u64 (now : Int))))).trans (Chg.of_wrote (Wrote.set g 8 _ _))⟩
end Go.Proofs.YtliiofjcghdjoaaDoor
