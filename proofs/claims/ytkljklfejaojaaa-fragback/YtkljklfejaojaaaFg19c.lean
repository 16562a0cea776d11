/- A list is copied; lists without some; the closures that tell which go: contracts of package frag, third part. -/
import Derived.Test.YtkljklfejaojaaaFg19b
import Derived.Test.YtkljklfejaojaaaFgMath4
namespace Go.Proofs.Ytkljklfejaojaaa
open Go.ChangeShapes Go.WideShapes Go.ChangeAt Go.RowKit
set_option linter.unusedSimpArgs false
set_option linter.unusedVariables false

theorem infoEP : ∃ i : TypeInfo, Try.prog.info? 66 = some i ∧ i.zero = some (.pointer none) ∧ i.size = 1 ∧ i.bytes = 8 := by
  have h : (Try.prog.info? 66).map (fun i => (i.zero, i.size, i.bytes)) = some (some (.pointer none), 1, 8) := by kernel_rfl
  cases hi : Try.prog.info? 66 with
  | none => rw [hi] at h; cases h
  | some i =>
    rw [hi] at h
    simp only [Option.map_some, Option.some.injEq, Prod.mk.injEq] at h
    exact ⟨i, rfl, h.1, h.2.1, h.2.2⟩
theorem build_ep0 (w : World) : (Instr.buildSlice 61 0 #[]).run Try.prog w = .ok (.slice (some ⟨w.heap.size, 0, none⟩) 0 0) (w.alloc (.cells #[] 66)) := by kernel_rfl
/-- A slice of none. -/
theorem wpList_build0 {P : Program} {ops : Array Oper} {rest : List Oper} {op : Oper} {a : Act} {w : World} {Q : Exit → Act → World → Prop} (hgd : op.guard = none) (t : TypeId) (ho : op.op = .buildSlice t 0 #[]) (e : TypeId)
    (hrun : (Instr.buildSlice t 0 #[]).run P w = .ok (.slice (some ⟨w.heap.size, 0, none⟩) 0 0) (w.alloc (.cells #[] e)))
    (h : ∀ w', OwnG w [⟨e, 1, .slice (some ⟨w.heap.size, 0, none⟩) 0 0, 0, []⟩] w' → wpList P ops Q rest (a.put op.dst (.slice (some ⟨w.heap.size, 0, none⟩) 0 0)) w') : wpList P ops Q (op :: rest) a w := by
  refine wpList_plain hgd fun K hK => ?_
  unfold Oper.wp execOp
  simp only [ho, List.map_toArray, List.map_nil, Sem.run_bind, hrun, Result.andThen_ok, Sem.run_pure]
  refine hK _ _ (h _ ?_)
  refine (OwnG.start w).fresh (p := ⟨e, 1, .slice (some ⟨w.heap.size, 0, none⟩) 0 0, 0, []⟩) ⟨rfl, .inr ⟨w.heap.size, 0, #[], rfl, Nat.le_refl _, ?_, Nat.le_refl _, by simp [maxLen], rfl, rfl⟩⟩ (growB _)
  show (w.heap.push _)[w.heap.size]? = _
  simp
set_option maxRecDepth 100000 in
set_option maxHeartbeats 4000000 in
theorem copyF_any (xs : List Ey) (v : Value) (w : World) (hR : RdC w v (pvs xs)) (hx : xs.length ≤ 1000000) :
    Calls Try.prog 46 #[v] w fun e w' => ∃ v', e = .returned v' ∧ w'.ownsRow w.heap.size 66 1 v' xs.length (pvs xs) ∧ Below w.heap.size w w' := by
  obtain ⟨a, c, rfl, h1, h2, h3⟩ := hR.formF
  rw [pvs_length] at h1 hR ⊢
  obtain ⟨n, hn⟩ : ∃ n : Nat, n = xs.length := ⟨_, rfl⟩
  rw [← hn] at hR h1 hx ⊢
  have HN : Hid (n = xs.length) := hn
  unfold maxLen at h2
  cases a with
  | none =>
    have hc0 := h3 rfl
    subst hc0
    have hn0 : n = 0 := by omega
    subst hn0
    have HX : Hid (pvs xs = []) := by show _ = _; rw [List.eq_nil_of_length_eq_zero hn.symm]; rfl
    have heq : (binOp .eql 61 (.slice none 0 0) (.slice none 0 0)).run Try.prog w = .ok (.bool true) w := Lib.run_eql_slice_nil w _ _ _ _ _ _ _ Try.underlying61
    clear hR hn h3
    go_enter Try.func46, Try.ntmps46
    go_wp2
    go_ret
    exact ⟨_, rfl, by rw [HX.out]; exact World.ownsRow_nil _ _ _ _, Below.refl _ _⟩
  | some ad =>
    have HR : Hid (RdE w (.slice (some ad) n c) 1 n (pvs xs)) := by
      have := hR.rdE
      rw [pvs_length, ← hn] at this
      exact this
    have HL : Hid (0 + n ≤ 1000000) := by show _ ≤ _; omega
    obtain ⟨i, hi1, hi2, hi3, hi4⟩ := infoEP
    have HI1 : Hid (Try.prog.info? 66 = some i) := hi1
    have HI2 : Hid (i.zero = some (.pointer none)) := hi2
    have HI3 : Hid (i.size = 1) := hi3
    have HI4 : Hid (i.bytes = 8) := hi4
    have heq : (binOp .eql 61 (.slice (some ad) n c) (.slice none 0 0)).run Try.prog w = .ok (.bool false) w := Lib.run_eql_slice_nil w _ _ _ _ _ _ _ Try.underlying61
    clear hR hn h3 hi1 hi2 hi3 hi4
    go_enter Try.func46, Try.ntmps46
    go_wp2_with (refine wpList_build0 rfl 61 rfl 66 (build_ep0 _) ?_)
    intro w1 hO
    have HR1 : Hid (RdE w1 (.slice (some ad) n c) 1 n (pvs xs)) := HR.out.kept hO.below
    have HO : Hid (OwnG w [⟨66, 1, .slice (some ⟨w.heap.size, 0, none⟩) 0 0, 0, []⟩] w1) := hO
    clear hO HR
    go_wp2_with (at_builtin; go_must (refine wpList_append_R rfl _ _ 61 rfl 66 i _ 1 8 Try.underlying61 HI1.out HI2.out HI3.out HI4.out rfl (by decide) _ 0 [] rfl HO.out _ n (pvs xs) rfl HR1.out (pvs_one xs) (by unfold maxLen; have := HL.out; omega) (by have := HL.out; omega) ?_))
    intro v2 w2 hO2 hc2
    have HO2 : Hid (w2.ownsRow w.heap.size 66 1 v2 n (pvs xs) ∧ Below w.heap.size w w2) := by
      have := hO2.rows _ (List.mem_cons_self ..)
      simp only [Nat.zero_add, List.nil_append] at this
      exact ⟨this, hO2.below⟩
    clear hO2 hc2
    go_wp2
    go_ret
    exact ⟨_, rfl, HO2.out.1, HO2.out.2⟩

set_option maxRecDepth 100000 in
set_option maxHeartbeats 4000000 in
theorem without_any (K : FuncId) (caps : Array Value) (f : Ey → Bool) (xs : List Ey) (v : Value) (w : World) (hR : RdC w v (pvs xs)) (hx : xs.length ≤ 1000000) (hE : ∀ (args : Array Value) (w : World), (callFunc K args).run Try.prog w = .ok (.enter K args) w)
    (hK : ∀ x ∈ xs, ∀ W, Below w.heap.size w W → Calls Try.prog K (#[pV x.g] ++ caps) W fun e w' => e = .returned (.bool (f x)) ∧ Below W.heap.size W w') :
    Calls Try.prog 26 #[v, .func (.func K) #[] caps] w fun e w' => ∃ v', e = .returned v' ∧ w'.ownsRow w.heap.size 66 1 v' (keY f xs).length (pvs (keY f xs)) ∧ Below w.heap.size w w' := by
  have HC : Hid (Calls Try.prog 46 #[v] w fun e w' => ∃ v', e = .returned v' ∧ w'.ownsRow w.heap.size 66 1 v' xs.length (pvs xs) ∧ Below w.heap.size w w') := copyF_any xs v w hR hx
  have HD : Hid (∀ v' w', w'.ownsRow w.heap.size 66 1 v' xs.length (pvs xs) → Below w.heap.size w w' → Calls Try.prog 45 #[v', .func (.func K) #[] caps] w' fun e w' => ∃ v', e = .returned v' ∧ w'.ownsRow w.heap.size 66 1 v' (keY f xs).length (pvs (keY f xs)) ∧ Below w.heap.size w w') :=
    fun v' w' ho hb => delF_any K caps f xs v' w w' hb ho hE hK
  clear hR hE hK hx
  go_enter Try.func26, Try.ntmps26
  go_wp2_with fail
  refine HC.out.mono ?_
  rintro e w1 ⟨v1, rfl, ho, hb⟩
  have HO : Hid (w1.ownsRow w.heap.size 66 1 v1 xs.length (pvs xs)) := ho
  have HB : Hid (Below w.heap.size w w1) := hb
  clear ho hb
  go_wp2_with fail
  refine (HD.out v1 _ HO.out HB.out).mono ?_
  rintro e w2 ⟨v2, rfl, ho, hb⟩
  have HO2 : Hid (w2.ownsRow w.heap.size 66 1 v2 (keY f xs).length (pvs (keY f xs))) := ho
  clear ho
  go_wp2
  go_ret
  exact ⟨_, rfl, HO2.out, hb⟩

/-- An entry's cells. -/
def enK (e : Ent) (b : Nat) : List Value := [.string ⟨e.peer.toArray⟩, .int .i64 e.msg, .int .u64 (e.born : Int), .slice (some ⟨b, 0, none⟩) e.parts.length e.parts.length, .int .i64 ((szE e : Nat) : Int)]
def enF (x : Ey) (w : World) : Prop := BlkAt x.g 68 (enK x.e x.b) w
theorem below_drewNF {B : Nat} {w wr : World} (h : Below B w wr) : ∀ n, Below B w (wr.drewN n)
  | 0 => h
  | n + 1 => (below_drewNF h n).drew

set_option maxRecDepth 100000 in
set_option maxHeartbeats 4000000 in
theorem cDrop_any (p : List UInt8) (gp : Nat) (x : Ey) (w : World) (hx : enF x w) (hp : w.cell? ⟨gp, 0, none⟩ = some (.string ⟨p.toArray⟩)) :
    Calls Try.prog 28 #[pV x.g, .pointer (some ⟨gp, 0, none⟩)] w fun e w' => e = .returned (.bool (decide (x.e.peer = p))) ∧ Below w.heap.size w w' := by
  have c0 : w.cell? ⟨x.g, 0, none⟩ = some (.string ⟨x.e.peer.toArray⟩) := BlkAt.cell hx 0
  obtain ⟨q, hq⟩ : ∃ q, q = x.e.peer := ⟨_, rfl⟩
  rw [← hq] at c0 ⊢
  have HB : Hid ((q == p) = decide (q = p)) := by show _ = _; rw [Bool.eq_iff_iff]; simp
  obtain ⟨g, hg⟩ : ∃ g, g = x.g := ⟨_, rfl⟩
  rw [← hg] at c0 ⊢
  clear hx hq hg
  go_enter Try.func28, Try.ntmps28
  go_wp2_with fail
  go_quiet (fail)
  have bq := below_drewNF (Below.refl w.heap.size w) nq
  go_wp2
  go_ret
  exact ⟨by simp [HB.out], bq⟩
end Go.Proofs.Ytkljklfejaojaaa
