/- What lays bytes into a state, and what a state begins with: contracts of package chacha, second part. -/
import Derived.Test.YtliiofjcghdjoaaDoorC07a
import Derived.Test.YtliiofjcghdjoaaDoorRef07b
namespace Go.Proofs.YtliiofjcghdjoaaDoor
open Go.ChangeShapes Go.WideShapes Go.ChangeAt Go.RowKit
set_option linter.unusedSimpArgs false
set_option linter.unusedVariables false

/-- Sixteen words as a value. -/
abbrev wdV (l : List Nat) : Value := .agg ((nI l).map (Value.int .u32)).toArray
theorem W16.len {l : List Nat} (h : W16 l) : (nI l).length = 16 := by rw [nI_length, h.1]
theorem W16.ne {l : List Nat} (h : W16 l) : nI l ≠ [] := by
  intro e
  have := h.len
  rw [e] at this
  cases this
theorem wdInfo {l : List Nat} (h : W16 l) : (Tryd.prog.info? 112).map (·.size) = some (nI l).length := by rw [h.len]; kernel_rfl
theorem wdMax {l : List Nat} (h : W16 l) : (nI l).length ≤ maxLen := by rw [h.len]; decide
/-- Sixteen noughts. -/
def z16 : List Nat := [0, 0, 0, 0, 0, 0, 0, 0, 0, 0, 0, 0, 0, 0, 0, 0]
theorem z16_ok : W16 z16 := ⟨rfl, by decide⟩
theorem alloc_wd (w : World) : (Instr.alloc 112 true (.tuple #[])).run Tryd.prog w = .ok (.pointer (some ⟨w.heap.size, 0, none⟩)) (w.alloc (.cells ((nI z16).map (Value.int .u32)).toArray 112)) := by kernel_rfl
/-- The four words that no caller chooses, and noughts. -/
def k16 : List Nat := [1634760805, 857760878, 2036477234, 1797285236, 0, 0, 0, 0, 0, 0, 0, 0, 0, 0, 0, 0]
theorem k16_ok : W16 k16 := ⟨rfl, by decide⟩
theorem build_wd (w : World) : (Instr.build 112 #[(0, .int .u32 1634760805), (1, .int .u32 857760878), (2, .int .u32 2036477234), (3, .int .u32 1797285236)]).run Tryd.prog w = .ok (wdV k16) w := by kernel_rfl
/-- Words of bytes, laid into others from a place on. -/
def lyL (l : List Nat) (p : Nat) (b : List UInt8) : Nat → List Nat
  | 0 => l
  | i + 1 => (lyL l p b i).set (p + i) (w4 b i)
theorem lyL_ok {l : List Nat} (h : W16 l) (p : Nat) (b : List UInt8) : ∀ i, W16 (lyL l p b i)
  | 0 => h
  | i + 1 => (lyL_ok h p b i).set _ (w4_lt _ _)
theorem ly_all (k : List UInt8) (c : Nat) (hc : c < 4294967296) (n : List UInt8) : lyL ((lyL k16 4 k 8).set 12 c) 13 n 3 = bkW k c n := by
  unfold bkW
  rw [Nat.mod_eq_of_lt hc]
  rfl
theorem Wrote.drew {g : Nat} {w w' : World} (h : Wrote g w w') : Wrote g w w'.drew := ⟨h.size, h.other, fun B a hB hb => (h.below B a hB hb).drew⟩
theorem Wrote.ofdrew {g : Nat} {w w' : World} (h : Wrote g w.drew w') : Wrote g w w' := ⟨h.size, h.other, fun B a hB hb => h.below B a hB hb.drew⟩
/-- A number is stored into a row. -/
theorem wp_store_at {e : TypeId} {g cap j : Nat} {l : List Int} {w : World} {op : Oper} {a : Act} {K : Act → World → Prop} {Q : Exit → Act → World → Prop} (x y : Operand) (ho : op.op = .store 108 x y) (hx : a.eval x = .pointer (some ⟨g, j, none⟩)) (X : Int) (hy : a.eval y = .int .u32 X)
    (hr : RowAt .u32 e g cap l w) (hj : j < l.length)
    (h : ∀ w', RowAt .u32 e g cap (l.set j X) w' → Wrote g w w' → K (a.put op.dst undef) w') : op.wp Tryd.prog a w K Q := by
  have hc := hr.cell hj
  have hf := hr.free j
  have h2 := h _ (hr.set j X) (Wrote.set g j w _)
  unfold Oper.wp execOp
  simp only [ho, hx, hy]
  go_simp
  exact h2
theorem lay07_facts (p i : Nat) (hp : p < 1000) (hi : i < 1000) : ∃ q m m4 j : Nat, q = p + i ∧ m = 4 * i ∧ m4 = m + 4 ∧ IntKind.i64.wrap ((p : Int) + (i : Int)) = (q : Int) ∧ IntKind.i64.wrap (4 * (i : Int)) = (m : Int) ∧ IntKind.i64.wrap ((i : Int) + 1) = (j : Int) ∧ IntKind.i64.wrap (4 * (j : Int)) = (m4 : Int) ∧ j = i + 1 := by
  refine ⟨p + i, 4 * i, 4 * i + 4, i + 1, rfl, rfl, rfl, ?_, ?_, ?_, ?_, rfl⟩
  · exact IntWalk.i64_in _ (by omega)
  · exact IntWalk.i64_in _ (by omega)
  · exact IntWalk.i64_in _ (by omega)
  · rw [show (4 : Int) * ((i + 1 : Nat) : Int) = ((4 * i + 4 : Nat) : Int) by omega]
    exact IntWalk.i64_in _ (by omega)

set_option maxRecDepth 100000 in
set_option maxHeartbeats 4000000 in
theorem slay_any (g p : Nat) (P : Int) (hP : P = (p : Int)) (vb : Value) (b : List UInt8) (l : List Nat) (hl : W16 l) (hb4 : p + b.length / 4 ≤ 16) (hne : 0 < b.length) (hb64 : b.length ≤ 64) (w0 w : World) (hb : Rd w0 vb b) (hB0 : Below w0.heap.size w0 w) (hg : w0.heap.size ≤ g) (hr : RowAt .u32 112 g 16 (nI l) w) :
    Calls Tryd.prog 76 #[.pointer (some ⟨g, 0, none⟩), .int .i64 P, vb] w fun e w' => e = .returned (.tuple #[]) ∧ RowAt .u32 112 g 16 (nI (lyL l p b (b.length / 4))) w' ∧ Wrote g w w' := by
  subst hP
  obtain ⟨gb, ob, cb, rfl, -, -, -⟩ := hb.cellAt (i := 0) hne
  obtain ⟨a', c', ev, hcb, hmb, -, -⟩ := id hb
  simp only [Value.slice.injEq] at ev
  obtain ⟨-, -, rfl⟩ := ev
  unfold maxLen at hmb
  obtain ⟨L, hL⟩ : ∃ L : Nat, L = b.length := ⟨_, rfl⟩
  obtain ⟨n4, hn4⟩ : ∃ n4 : Nat, n4 = L / 4 := ⟨_, rfl⟩
  rw [← hL] at hb4 hcb hb64
  rw [← hL, ← hn4] at ⊢
  rw [← hL] at hb
  rw [← hn4] at hb4
  have e0 : ((L : Nat) : Int).tdiv 4 = (n4 : Int) := by rw [Int.tdiv_eq_ediv_of_nonneg (by omega)]; omega
  have e1 : (L : Int) / 4 = (n4 : Int) := by omega
  have HL : Hid _ := hL
  have HN4 : Hid _ := hn4
  have HBr : Hid (Rd w0 (.slice (some ⟨gb, ob, none⟩) L cb) b) := hb
  have HW : Hid (W16 l) := hl
  have hw0 := Wrote.refl g w
  clear hL hn4 hb hl hne
  go_enter Tryd.func76, Tryd.ntmps76
  go_wp2
  go_loopw [10] (fun iv wx => ∃ i : Nat, i ≤ n4 ∧ iv = .int .i64 (i : Int) ∧ RowAt .u32 112 g 16 (nI (lyL l p b i)) wx ∧ Wrote g w wx) (fun iv _ => n4 - (intOf iv).toNat)
  case atStart => exact ⟨0, by omega, rfl, hr, hw0⟩
  case round =>
    obtain ⟨i, hi, rfl, hr1, hw1⟩ := hrel
    clear hr hw0
    by_cases hlt : i < n4
    · have hd : decide ((i : Int) < (n4 : Int)) = true := decide_eq_true (by omega)
      have hiI : (i : Int) < (n4 : Int) := by omega
      have h4 := HN4.out
      obtain ⟨q, m, m4, j, hq, hm, hm4, x1, x2, x3, x4, hj⟩ := lay07_facts p i (by omega) (by omega)
      have hB := hw1.below _ _ hg hB0
      have hsub := ((HBr.out).kept hB).sub (4 * i) (4 * i + 4) (by omega) (by omega)
      have hld := load_any _ _ _ hsub.drew
      rw [Nat.add_sub_cancel_left, w4_load, ← hm] at hld
      have HNx : Hid (nI ((lyL l p b i).set q (w4 b i)) = nI (lyL l p b (i + 1))) := by
        show _ = _
        rw [hq]
        rfl
      have hz := w4_lt b i
      have hlen : (nI (lyL l p b i)).length = 16 := (lyL_ok HW.out p b i).len
      have HLn : Hid _ := hlen
      have hq16 : q < 16 := by omega
      have hq16I : (q : Int) < 16 := by omega
      have ym1 : m4 ≤ L := by omega
      have ym2 : (m4 : Int) ≤ (L : Int) := by omega
      have ym3 : m ≤ m4 := by omega
      have ym4 : (m : Int) ≤ (m4 : Int) := by omega
      have ym5 : m4 ≤ cb := by omega
      have ym6 : (m4 : Int) ≤ (cb : Int) := by omega
      have ym7 : m4 - m = 4 := by omega
      have ym9 : ¬ cb = m := by omega
      have HJ : Hid _ := hj
      have ym8 : (m4 : Int) - (m : Int) = 4 := by omega
      have HLD : Hid (Calls Tryd.prog 87 #[.slice (some ⟨gb, ob + m, none⟩) 4 (cb - m)] wr.drew fun e w' => e = .returned (.int .u64 ((w4 b i : Nat) : Int)) ∧ w' = wr.drew) := hld
      generalize w4 b i = z at HLD HNx hz
      generalize lyL l p b i = V at hr1 HNx HLn
      have x5 : IntKind.u32.wrap (z : Int) = (z : Int) := by rw [IntKind.wrap_u32']; omega
      have x6 : (z : Int) % 4294967296 = (z : Int) := by omega
      clear hsub hld hm hq hm4 h4 hlen hB hj
      go_wp2_with fail
      have hB : Below wr.heap.size wr wr.drew := (Below.refl _ _).drew
      refine wpF_begin 15 (w0 := wr) (by kernel_rfl) ?_
      refine fP_ (.inr hB) 0 rfl ⟨_, by intro W; go_simp <;> with_reducible rfl, ?_⟩
      try simp only [Act.put, pA_, pB_, pC_]
      refine fP_ (.inr hB) 1 rfl ⟨_, by intro W; go_simp <;> with_reducible rfl, ?_⟩
      try simp only [Act.put, pA_, pB_, pC_]
      refine fP_ (.inr hB) 2 rfl ⟨_, by intro W; go_simp <;> with_reducible rfl, ?_⟩
      try simp only [Act.put, pA_, pB_, pC_]
      refine fP_ (.inr hB) 3 rfl ⟨_, by intro W; go_simp <;> with_reducible rfl, ?_⟩
      try simp only [Act.put, pA_, pB_, pC_]
      refine fP_ (.inr hB) 4 rfl ⟨_, by intro W; go_simp <;> with_reducible rfl, ?_⟩
      try simp only [Act.put, pA_, pB_, pC_]
      refine fP_ (.inr hB) 5 rfl ⟨_, by intro W; go_simp <;> with_reducible rfl, ?_⟩
      try simp only [Act.put, pA_, pB_, pC_]
      refine fP_ (.inr hB) 6 rfl ⟨_, by intro W; go_simp <;> with_reducible rfl, ?_⟩
      try simp only [Act.put, pA_, pB_, pC_]
      refine fP_ (.inr hB) 7 rfl ⟨_, by intro W; go_simp <;> with_reducible rfl, ?_⟩
      try simp only [Act.put, pA_, pB_, pC_]
      refine fP_ (.inr hB) 8 rfl ⟨_, by intro W; go_simp <;> with_reducible rfl, ?_⟩
      try simp only [Act.put, pA_, pB_, pC_]
      refine fP_ (.inr hB) 9 rfl ⟨_, by intro W; go_simp <;> with_reducible rfl, ?_⟩
      try simp only [Act.put, pA_, pB_, pC_]
      refine fP_ (.inr hB) 10 rfl ⟨_, by intro W; go_simp <;> with_reducible rfl, ?_⟩
      try simp only [Act.put, pA_, pB_, pC_]
      refine fP_ (.inr hB) 13 rfl ⟨_, by intro W; go_simp <;> with_reducible rfl, ?_⟩
      try simp only [Act.put, pA_, pB_, pC_]
      refine fD_ 11 fun K hK => ?_
      go_simp
      refine Calls.mono HLD.out ?_
      rintro e w5 ⟨rfl, rfl⟩
      refine hK.out _ _ (.inr hB) ?_
      clear hK K
      try simp only [Act.put, pA_, pB_, pC_]
      refine fP_ (.inr hB) 12 rfl ⟨_, by intro W; go_simp <;> with_reducible rfl, ?_⟩
      try simp only [Act.put, pA_, pB_, pC_]
      refine fP_ (.inr hB) 14 rfl ⟨_, by intro W; go_simp <;> with_reducible rfl, ?_⟩
      try simp only [Act.put, pA_, pB_, pC_]
      refine fD_ 15 fun K hK => ?_
      refine wp_store_at _ _ (by rfl) (by rfl) (z : Int) (by rfl) hr1.drew (by rw [HLn.out]; exact hq16) ?_
      intro w6 hr6 hw6
      rw [nI_set, HNx.out] at hr6
      refine hK.out _ _ (.inl rfl) ?_
      clear hK K
      try simp only [Act.put, pA_, pB_, pC_]
      refine wpF_done (by kernel_rfl) ?_
      have hw7 := hw1.trans hw6.ofdrew
      clear hr1 hw1 hw6
      go_wp2
      go_roundw
      case rel => exact ⟨i + 1, by omega, by rw [HJ.out], hr6, hw7⟩
      case measure =>
        have := HJ.out
        simp [intOf] <;> omega
    · have hie : i = n4 := by omega
      have hd : decide ((i : Int) < (n4 : Int)) = false := decide_eq_false (by omega)
      have hiI : (n4 : Int) ≤ (i : Int) := by omega
      rw [hie] at hr1
      clear hie
      go_wp2
      refine bodyPost_end (v := .tuple #[]) (by simp [results, Tryd.results76, go_sem]) rfl ?_
      exact ⟨rfl, hr1, hw1⟩

set_option maxRecDepth 100000 in
set_option maxHeartbeats 2000000 in
theorem start_any (vk vn : Value) (k n : List UInt8) (c : Nat) (C : Int) (hC : C = (c : Int)) (hc : c < 4294967296) (w : World) (hk : Rd w vk k) (hn : Rd w vn n) (hk32 : k.length = 32) (hn12 : n.length = 12) :
    Calls Tryd.prog 65 #[vk, .int .u32 C, vn] w fun e w' => e = .returned (wdV (bkW k c n)) ∧ Below w.heap.size w w' := by
  subst hC
  have HK : Hid (Rd w vk k) := hk
  have HN : Hid (Rd w vn n) := hn
  have HL1 : Hid (k.length / 4 = 8) := by show _ = _; rw [hk32]
  have HL2 : Hid (n.length / 4 = 3) := by show _ = _; rw [hn12]
  have HL3 : Hid (k.length = 32) := hk32
  have HL4 : Hid (n.length = 12) := hn12
  have HE : Hid _ := ly_all k c hc n
  obtain ⟨k8, hk8⟩ : ∃ l : List Nat, l = lyL k16 4 k 8 := ⟨_, rfl⟩
  have h8 : W16 k8 := by rw [hk8]; exact lyL_ok k16_ok _ _ _
  have H8 : Hid _ := hk8
  rw [← hk8] at HE
  have h9 : W16 (k8.set 12 c) := h8.set 12 hc
  have hB : W16 (bkW k c n) := bkW_ok k c n
  generalize bkW k c n = B at HE hB ⊢
  clear hk hn hk32 hn12 hk8
  go_enter Tryd.func65, Tryd.ntmps65
  go_wp2_with (refine wpList_alloc_row (k := .u32) rfl 112 rfl (nI z16) (alloc_wd _) z16_ok.ne (wdMax z16_ok) ?_)
  intro w1 r1 b1 s1
  rw [z16_ok.len] at r1
  go_wp2_with (first | refine wpList_buildB rfl 112 _ rfl _ rfl _ (build_wd _) ?_ | refine wpList_alloc_row (k := .u32) rfl 112 rfl (nI z16) (alloc_wd _) z16_ok.ne (wdMax z16_ok) ?_)
  intro w2 r2 b2 s2
  rw [z16_ok.len] at r2
  replace r1 := r1.kept b2
  have hbw := stepB b1 b2
  have n1 : w.heap.size < w1.heap.size := by have := s1.out; omega
  clear b1 b2 s1 s2
  go_wp2_with (refine wpList_store_row rfl 112 _ _ rfl (nI k16) rfl rfl r2 (by rw [z16_ok.len, k16_ok.len]) (wdInfo z16_ok) ?_)
  intro w3 r3 hw3
  replace r1 := r1.wrote hw3 (by omega)
  replace hbw := hw3.below _ _ (by omega) hbw
  clear r2 hw3
  go_wp2_with fail
  refine (slay_any _ 4 _ rfl vk k k16 k16_ok (by rw [HL1.out]; decide) (by rw [HL3.out]; decide) (by rw [HL3.out]; decide) w w3 HK.out hbw (by omega) r3).mono ?_
  rintro e w4 ⟨rfl, r4, hw4⟩
  rw [HL1.out, ← H8.out] at r4
  replace r1 := r1.wrote hw4 (by omega)
  replace hbw := hw4.below _ _ (by omega) hbw
  clear r3 hw4
  have hc4 := r4.cell (j := 12) (by rw [h8.len]; decide)
  have hf4 := r4.free 12
  have r5 := r4.set 12 (c : Int)
  rw [nI_set] at r5
  have hw5 := Wrote.set w1.heap.size 12 w4 (.int .u32 (c : Int))
  have R5 : Hid _ := r5
  have R1 : Hid _ := r1.wrote hw5 (by omega)
  have HB5 : Hid _ := hw5.below _ _ (Nat.le_of_lt n1) hbw
  clear r5 hw5 r1 hbw
  go_wp2_with fail
  clear hc4 hf4 r4
  generalize w4.setCell ⟨w1.heap.size, 12, none⟩ (.int .u32 (c : Int)) = w5 at R5 R1 HB5 ⊢
  refine (slay_any _ 13 _ rfl vn n (k8.set 12 c) h9 (by rw [HL2.out]; decide) (by rw [HL4.out]; decide) (by rw [HL4.out]; decide) w w5 HN.out HB5.out (by omega) R5.out).mono ?_
  rintro e w6 ⟨rfl, r6, hw6⟩
  rw [HL2.out, HE.out] at r6
  have r1 := R1.out.wrote hw6 (by omega)
  have hbw := hw6.below _ _ (by omega) HB5.out
  clear R1 R5 HB5 hw6
  go_wp2_with (first | refine wpList_load_row rfl 112 _ rfl rfl r6 _ Tryd.underlying112 rfl (wdInfo hB) ?_ | (refine wpList_store_row rfl 112 _ _ rfl (nI B) rfl rfl r1 (by rw [z16_ok.len, hB.len]) (wdInfo z16_ok) ?_; intro w7 r7 hw7))
  refine bodyPost_row (k := .u32) rfl rfl rfl r7 Tryd.underlying112 rfl (wdInfo hB) ?_
  exact ⟨rfl, hw7.below _ _ (Nat.le_refl _) hbw⟩
end Go.Proofs.YtliiofjcghdjoaaDoor
