/- awake of redanlaw19: a message in two pieces. -/
import Derived.Test.YtkljklfejaojaaaFg19n
namespace Go.Proofs.Ytkljklfejaojaaa
open Go.ChangeShapes Go.WideShapes Go.ChangeAt Go.RowKit
set_option linter.unusedSimpArgs false
set_option linter.unusedVariables false

/-- Noughts. -/
def nzF (n : Nat) : List UInt8 := List.replicate n 0
theorem nzF_length (n : Nat) : (nzF n).length = n := List.length_replicate
theorem aw_sp : spF (nzF 1025) = ([nzF 1024, [0]], 0) := by kernel_rfl
theorem aw1 : adF ⟨2000, 2000, 5, []⟩ [112] 0 1 2 [0] 1 = (⟨2000, 2000, 5, [⟨[112], 0, 1, [[], [0]]⟩]⟩, [], 0) := by kernel_rfl
theorem aw2 : adF ⟨2000, 2000, 5, [⟨[112], 0, 1, [[], [0]]⟩]⟩ [112] 0 0 2 (nzF 1024) 2 = (⟨2000, 2000, 5, []⟩, nzF 1025, 0) := by kernel_rfl
/-- Bytes are made. -/
theorem wpList_make19 {P : Program} {e : TypeId} {w : World} {ops : Array Oper} {rest : List Oper} {o : Oper} {a : Act} {Q : Exit → Act → World → Prop} (hgd : o.guard = none) (l c : Operand) (t : TypeId) (ho : o.op = .makeSlice t l c) (hu : P.underlying t = some (.slice e))
    (hinfo : (P.info? e).map (fun i => (i.zero, i.size, i.bytes)) = some (some (.int .u8 0), 1, 1)) (n : Nat) (hl : a.eval l = .int .i64 (n : Int)) (hc : a.eval c = .int .i64 (n : Int)) (hn : n ≤ 1000000)
    (h : ∀ w', New e w (.slice (some ⟨w.heap.size, 0, none⟩) n n) (nzF n) w' → wpList P ops Q rest (a.put o.dst (.slice (some ⟨w.heap.size, 0, none⟩) n n)) w') : wpList P ops Q (o :: rest) a w := by
  refine wpList_plain hgd fun K hK => ?_
  obtain ⟨i, hi, hz0, hz1, hz2⟩ := info_parts hinfo
  obtain ⟨w', hrun, r1, r2⟩ := run_make_full (P := P) w w.heap.size t e i _ 1 hu hi hz0 hz1 .i64 .i64 n (by rw [hz2]; omega) (by unfold maxLen; omega) (Nat.le_refl _)
  unfold Oper.wp
  simp [execOp, ho, hl, hc, hrun, Result.andThen]
  rw [Nat.mul_one] at r1
  exact hK _ _ (h w' (New.made r1 r2))
/-- Where a piece lies. -/
theorem SpS.at {w0 w : World} {v : Value} {vs : List Value} {ls : List (List UInt8)} (h : SpS w0 v vs ls w) {i : Nat} (hi : i < ls.length) : ∃ g cap a c, v = .slice (some ⟨g, 0, none⟩) ls.length cap ∧ ls.length ≤ cap ∧ w0.heap.size ≤ g ∧ w.cell? ⟨g, i, none⟩ = some (.slice a (ls.getD i []).length c) ∧
    vs[i]? = some (.slice a (ls.getD i []).length c) ∧ w.ownsRow w0.heap.size 5 1 (.slice a (ls.getD i []).length c) (ls.getD i []).length ((ls.getD i []).map bv) := by
  have hrow := h.own.rows _ (List.mem_cons_self ..)
  have hrow' : w.ownsRow w0.heap.size 22 1 v ls.length vs := hrow
  obtain ⟨g, cap, hv, hcap, hg, -, -, hc⟩ := own_place hrow' (by omega)
  have hiv : i < vs.length := by rw [h.len]; exact hi
  have hmem : Rw.by 5 vs[i] ls[i] ∈ pcR vs ls := by
    have e : (pcR vs ls)[i]? = some (Rw.by 5 vs[i] ls[i]) := by
      unfold pcR
      rw [List.getElem?_zipWith]
      simp [hiv, hi]
    exact List.mem_of_getElem? e
  have hr := h.own.rows _ (List.mem_cons_of_mem _ hmem)
  have hr' : w.ownsRow w0.heap.size 5 1 vs[i] ls[i].length (ls[i].map bv) := hr
  have el : ls.getD i [] = ls[i] := by simp [hi]
  obtain ⟨a, c, e, -⟩ := Rd.of_row hr'
  refine ⟨g, cap, a, c, hv, hcap, hg, ?_, ?_, ?_⟩
  · rw [hc i hiv, el, ← e]
    exact List.getElem?_eq_getElem hiv
  · rw [el, ← e]
    exact List.getElem?_eq_getElem hiv
  · rw [el, ← e]
    exact hr'
/-- Bytes that were there before do not lie in what is made since. -/
theorem OutK.old {w w' : World} {base n : Nat} {e : TypeId} {v : Value} {l : List UInt8} {xs : List Value} (h : w.ownsRow base e 1 v n xs) (hb : w.heap.size ≤ w'.heap.size) : OutK (fun k => w'.heap.size ≤ k) v l :=
  OutK.own h fun g hg hk => by have := (h.lt g hg).2; omega
theorem build_l19c (g : Nat) (x y : Int) (w : World) : (Instr.build 37 #[(0, .int .i64 x), (1, .int .i64 y), (2, .int .u64 (g : Int))]).run Try.prog w = .ok (.agg #[.int .i64 x, .int .i64 y, .int .u64 (g : Int)]) w := by kernel_rfl

set_option maxRecDepth 100000 in
set_option maxHeartbeats 8000000 in
theorem awake_any (w : World) : Calls Try.prog 8 #[] w fun e w' => e = .returned (.bool true) ∧ Below w.heap.size w w' := by
  go_enter Try.func8, Try.ntmps8
  go_wp2_with (refine wpList_make19 rfl _ _ 22 rfl Try.underlying22 info5 1025 rfl rfl (by decide) ?_)
  intro w1 hN1
  have HSp := split_any _ _ w1 hN1.rd
  rw [aw_sp] at HSp
  have HSpC : Hid _ := HSp
  have HB1 : Hid (Below w.heap.size w w1) := hN1.2
  clear HSp hN1
  go_wp2_with fail
  refine Calls.mono HSpC.out ?_
  rintro e w2 ⟨v', vs, rfl, hS⟩
  obtain ⟨g, cap, a0, c0, rfl, hcap, hge, d0, -, ho0⟩ := hS.at (i := 0) (by decide)
  obtain ⟨g', cap', a1, c1, hv, -, -, d1, -, ho1⟩ := hS.at (i := 1) (by decide)
  simp only [Value.slice.injEq, Option.some.injEq, Addr.mk.injEq, and_true, true_and] at hv
  obtain ⟨rfl, rfl⟩ := hv
  have hB2 := hS.own.below
  replace d0 : w2.cell? ⟨g, 0, none⟩ = some (.slice a0 1024 c0) := d0
  replace d1 : w2.cell? ⟨g, 1, none⟩ = some (.slice a1 1 c1) := d1
  replace ho0 : w2.ownsRow w1.heap.size 5 1 (.slice a0 1024 c0) 1024 ((nzF 1024).map bv) := ho0
  replace ho1 : w2.ownsRow w1.heap.size 5 1 (.slice a1 1 c1) 1 ([0].map bv) := ho1
  have hR0 : Rd w2 (.slice a0 1024 c0) (nzF 1024) := Rd.of_row (e := 5) (base := w1.heap.size) (l := nzF 1024) (by rw [nzF_length]; exact ho0)
  have hR1 : Rd w2 (.slice a1 1 c1) [0] := Rd.of_row (l := [0]) ho1
  have HO0 : Hid (OutK (fun k => w2.heap.size ≤ k) (.slice a0 1024 c0) (nzF 1024)) := OutK.old ho0 (Nat.le_refl _)
  have HO1 : Hid (OutK (fun k => w2.heap.size ≤ k) (.slice a1 1 c1) [0]) := OutK.old ho1 (Nat.le_refl _)
  have HR0 : Hid (Rd w2 (.slice a0 1024 c0) (nzF 1024)) := hR0
  have HR1 : Hid (Rd w2 (.slice a1 1 c1) [0]) := hR1
  have HD0 : Hid (w2.cell? ⟨g, 0, none⟩ = some (.slice a0 1024 c0)) := d0
  have HD1 : Hid (w2.cell? ⟨g, 1, none⟩ = some (.slice a1 1 c1)) := d1
  have HB2 : Hid (Below w.heap.size w w2) := stepB HB1.out hB2
  have hlen : ([nzF 1024, [0]] : List (List UInt8)).length = 2 := rfl
  rw [hlen] at hcap ⊢
  have hbl := build_l19c 5 2000 2000 w2
  clear hS hge ho0 ho1 hB2 hR0 hR1 d0 d1 HSpC HB1 hlen
  go_wp2_with fail
  refine (new_any 2000 2000 5 w2).mono ?_
  rintro e w3 ⟨gb, rfl, hgb, hbk, b3⟩
  have HB3 : Hid (Below w2.heap.size w2 w3) := b3
  have hBu : BuP (fun k => w2.heap.size ≤ k) w3 gb ⟨2000, 2000, 5, []⟩ := BuP.start hbk hgb rfl
  have hadd := add_any ⟨2000, 2000, 5, []⟩ (fun e he => by cases he) (by decide) ⟨⟨by decide, by decide⟩, ⟨by decide, by decide⟩⟩ [112] (by decide) 0 1 2 [0] (.slice a1 1 c1) 1 (by decide) gb (fun k => w2.heap.size ≤ k) w3 (fun q hq => Nat.le_trans HB3.out.size hq) hBu (Rd.kept HR1.out b3) HO1.out
  rw [aw1] at hadd
  simp only at hadd
  have HAdd : Hid _ := hadd
  have e1 := cellF HD1.out b3
  clear hadd hBu hbk hgb b3 hbl
  go_wp2_with fail
  refine Calls.mono HAdd.out ?_
  rintro e w4 ⟨v4, rfl, hR4, hBu4, c4⟩
  obtain ⟨a4, k4, rfl, -⟩ := id hR4
  have HB4 : Hid (Below w2.heap.size w2 w4) := Chg.below HB3.out c4.chg HB3.out.size fun k _ hk => hk
  have HBu4 : Hid _ := hBu4
  have hens : EnS [⟨[112], 0, 1, [[], [0]]⟩] := by
    intro e he
    rw [List.mem_singleton.1 he]
    exact ⟨by decide, by decide, by decide, by decide⟩
  have hH := bheld_any _ [112] gb _ w4 hBu4 hens (by decide)
  have e2 : hdB [⟨[112], 0, 1, [[], [0]]⟩] [112] = 1 := rfl
  simp only [e2] at hH
  have HH : Hid _ := hH
  have HEn : Hid _ := hens
  clear hR4 hBu4 c4 hH e1 HAdd hens e2
  go_wp2_with fail
  refine Calls.mono HH.out ?_
  rintro e w5 ⟨rfl, b5⟩
  have HB5 : Hid (Below w2.heap.size w2 w5) := HB4.out.trans (b5.mono HB4.out.size)
  have hadd := add_any ⟨2000, 2000, 5, [⟨[112], 0, 1, [[], [0]]⟩]⟩ HEn.out (by decide) ⟨⟨by decide, by decide⟩, ⟨by decide, by decide⟩⟩ [112] (by decide) 0 0 2 (nzF 1024) (.slice a0 1024 c0) 2 (by decide) gb (fun k => w2.heap.size ≤ k) w5 (fun q hq => Nat.le_trans HB5.out.size hq) (BuP.kept HBu4.out b5) (Rd.kept HR0.out HB5.out) HO0.out
  rw [aw2] at hadd
  simp only at hadd
  have HAdd : Hid _ := hadd
  have e0 := cellF HD0.out HB5.out
  clear hadd b5 HH HEn HBu4
  go_wp2_with fail
  refine Calls.mono HAdd.out ?_
  rintro e w6 ⟨v6, rfl, hR6, hBu6, c6⟩
  obtain ⟨a6, k6, rfl, -⟩ := id hR6
  rw [nzF_length]
  have HB6 : Hid (Below w2.heap.size w2 w6) := Chg.below HB5.out c6.chg HB5.out.size fun k _ hk => hk
  have HBu6 : Hid _ := hBu6
  have hT := btotal_any _ gb _ w6 hBu6 (fun e he => by cases he) (by decide)
  have HT : Hid (Calls Try.prog 19 #[pV gb] w6 fun e w' => e = .returned (.int .i64 0) ∧ Below w6.heap.size w6 w') := hT
  clear hR6 hBu6 c6 hT e0 HAdd
  go_wp2_with fail
  refine Calls.mono HT.out ?_
  rintro e w7 ⟨rfl, b7⟩
  have hC := bcount_any _ gb _ w7 (BuP.kept HBu6.out b7)
  have HC : Hid (Calls Try.prog 21 #[pV gb] w7 fun e w' => e = .returned (.int .i64 0) ∧ w' = w7) := hC
  have HB7 : Hid (Below w.heap.size w w7) := HB2.out.trans ((HB6.out.trans (b7.mono HB6.out.size)).mono HB2.out.size)
  clear hC b7 HT
  go_wp2_with fail
  refine Calls.mono HC.out ?_
  rintro e w8 ⟨rfl, rfl⟩
  go_wp2
  go_ret
  exact ⟨rfl, HB7.out⟩
end Go.Proofs.Ytkljklfejaojaaa
