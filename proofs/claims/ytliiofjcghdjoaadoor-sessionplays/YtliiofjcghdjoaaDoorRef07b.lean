/- What the document's own block is: a contract of the reference of layer 7. -/
import Derived.Test.YtliiofjcghdjoaaDoorRef07a
import Derived.Test.YtliiofjcghdjoaaDoorRfb
namespace Go.Proofs.YtliiofjcghdjoaaDoor
open Go.ChangeShapes Go.WideShapes Go.ChangeAt Go.RowKit
set_option linter.unusedSimpArgs false
set_option linter.unusedVariables false

theorem cellK0 {w W : World} {p : Addr} {v : Value} (h : w.cell? p = some v) (hb : Below w.heap.size w W) : W.cell? p = some v := by
  rw [hb.cell (World.block_lt_of_cell? _ _ h)]
  exact h
theorem NewI.place {k : IntKind} {e : TypeId} {w wr : World} {g n cap : Nat} {l : List Int} (h : NewI k e w (.slice (some ⟨g, 0, none⟩) n cap) l wr) {j : Nat} (hj : j < l.length) :
    n = l.length ∧ w.heap.size ≤ g ∧ wr.cell? ⟨g, j, none⟩ = some (.int k (l.getD j 0)) ∧ wr.frozen? ⟨g, j, none⟩ = false ∧ ∀ x : Int, NewI k e w (.slice (some ⟨g, 0, none⟩) n cap) (l.set j x) (wr.setCell ⟨g, j, none⟩ (.int k x)) := by
  obtain ⟨g', c', ev, h1, -, h2, h3, h4⟩ := h.at hj
  simp only [Value.slice.injEq, Option.some.injEq, Addr.mk.injEq, and_true, true_and] at ev
  obtain ⟨rfl, rfl, rfl⟩ := ev
  exact ⟨rfl, h1, h2, h3, h4⟩
/-- A word is stored into a row of the call's own. -/
theorem wp_store_word {w wr : World} {g n cap j : Nat} {l : List Int} {op : Oper} {a : Act} {K : Act → World → Prop} {Q : Exit → Act → World → Prop} (x y : Operand) (ho : op.op = .store 22 x y) (hx : a.eval x = .pointer (some ⟨g, j, none⟩)) (X : Int) (hy : a.eval y = .int .u64 X)
    (hN : NewI .u64 22 w (.slice (some ⟨g, 0, none⟩) n cap) l wr) (hj : j < l.length)
    (h : ∀ w', NewI .u64 22 w (.slice (some ⟨g, 0, none⟩) n cap) (l.set j X) w' → K (a.put op.dst undef) w') : op.wp Tryd.prog a wr K Q := by
  obtain ⟨-, -, hc, hf, hs⟩ := hN.place hj
  have h2 := h _ (hs X)
  unfold Oper.wp execOp
  simp only [ho, hx, hy]
  go_simp
  exact h2
theorem lit1I {k : IntKind} {w : World} {e : TypeId} (x : Int) : RdI k (w.alloc (.cells #[.int k x] e)) (.slice (some ⟨w.heap.size, 0, none⟩) 1 1) [x] :=
  (NewI.lit (k := k) (e := e) (w := w) [x] rfl rfl rfl (by simp [maxLen])).rd
theorem col_facts (k : Nat) (h : k < 4) : ∃ k4 k8 k12 : Nat, k4 = k + 4 ∧ k8 = k + 8 ∧ k12 = k + 12 ∧ IntKind.i64.wrap ((k : Int) + 4) = (k4 : Int) ∧ IntKind.i64.wrap ((k : Int) + 8) = (k8 : Int) ∧ IntKind.i64.wrap ((k : Int) + 12) = (k12 : Int) ∧
    k < 16 ∧ k4 < 16 ∧ k8 < 16 ∧ k12 < 16 ∧ (k : Int) < 16 ∧ (k4 : Int) < 16 ∧ (k8 : Int) < 16 ∧ (k12 : Int) < 16 := by
  refine ⟨k + 4, k + 8, k + 12, rfl, rfl, rfl, ?_, ?_, ?_, by omega, by omega, by omega, by omega, by omega, by omega, by omega, by omega⟩
  all_goals exact IntWalk.i64_in _ (by omega)
theorem dia_facts (k : Nat) (h : k < 4) : ∃ r4 r8 r12 k4 k8 k12 : Nat, k4 = 4 + (k + 1) % 4 ∧ k8 = 8 + (k + 2) % 4 ∧ k12 = 12 + (k + 3) % 4 ∧
    IntKind.i64.wrap ((k : Int) + 1) = (k : Int) + 1 ∧ IntKind.i64.wrap ((k : Int) + 2) = (k : Int) + 2 ∧ IntKind.i64.wrap ((k : Int) + 3) = (k : Int) + 3 ∧
    ((k : Int) + 1).tmod 4 = (r4 : Int) ∧ ((k : Int) + 2).tmod 4 = (r8 : Int) ∧ ((k : Int) + 3).tmod 4 = (r12 : Int) ∧ IntKind.i64.wrap (r4 : Int) = (r4 : Int) ∧ IntKind.i64.wrap (r8 : Int) = (r8 : Int) ∧ IntKind.i64.wrap (r12 : Int) = (r12 : Int) ∧
    IntKind.i64.wrap (4 + (r4 : Int)) = (k4 : Int) ∧ IntKind.i64.wrap (8 + (r8 : Int)) = (k8 : Int) ∧ IntKind.i64.wrap (12 + (r12 : Int)) = (k12 : Int) ∧
    k < 16 ∧ k4 < 16 ∧ k8 < 16 ∧ k12 < 16 ∧ (k : Int) < 16 ∧ (k4 : Int) < 16 ∧ (k8 : Int) < 16 ∧ (k12 : Int) < 16 := by
  have h4 : k = 0 ∨ k = 1 ∨ k = 2 ∨ k = 3 := by omega
  rcases h4 with rfl | rfl | rfl | rfl
  · exact ⟨1, 2, 3, 5, 10, 15, by decide⟩
  · exact ⟨2, 3, 0, 6, 11, 12, by decide⟩
  · exact ⟨3, 0, 1, 7, 8, 13, by decide⟩
  · exact ⟨0, 1, 2, 4, 9, 14, by decide⟩
theorem infoU64c : (Tryd.prog.info? 22).map (fun i => (i.zero, i.size, i.bytes)) = some (some (.int .u64 0), 1, 8) := by kernel_rfl
/-- The head of a block's words. -/
def kst7 : List Nat := [1634760805, 857760878, 2036477234, 1797285236]
/-- Words behind others. -/
def pW (pre : List Nat) (b : List UInt8) (i : Nat) : List Nat := pre ++ (List.range i).map (w4 b)
theorem pW_zero (pre : List Nat) (b : List UInt8) : pW pre b 0 = pre := by simp [pW]
theorem pW_length (pre : List Nat) (b : List UInt8) (i : Nat) : (pW pre b i).length = pre.length + i := by simp [pW]
theorem pW_next (pre : List Nat) (b : List UInt8) (i : Nat) : nI (pW pre b i) ++ [((w4 b i : Nat) : Int)] = nI (pW pre b (i + 1)) := by
  unfold pW
  rw [List.range_succ, List.map_append, ← List.append_assoc, ← nI_append (pre ++ (List.range i).map (w4 b))]
  rfl
theorem w4_load (b : List UInt8) (i : Nat) : leN (((b.drop (4 * i)).take 4).take 8) = w4 b i := by
  rw [List.take_take]
  rfl

set_option maxRecDepth 100000 in
set_option maxHeartbeats 2000000 in
theorem blockR_arg (vk vn : Value) (k n : List UInt8) (C : Int) (w : World) (hk : Rd w vk k) (hn : Rd w vn n) (h : ¬ (k.length = 32 ∧ n.length = 12)) :
    Calls Tryd.prog 58 #[vk, .int .u64 C, vn] w fun e w' => e = .returned (.slice none 0 0) ∧ w' = w := by
  obtain ⟨ak, ck, rfl, -, hmk, -, -⟩ := id hk
  obtain ⟨an, cn, rfl, -, hmn, -, -⟩ := id hn
  unfold maxLen at hmk hmn
  by_cases h1 : k.length = 32
  case' pos =>
    have d1 : (((k.length : Nat) : Int) != 32) = false := by rw [h1]; rfl
    have d2 : (((n.length : Nat) : Int) != 12) = true := by
      simp only [bne_iff_ne, ne_eq]
      omega
  case' neg =>
    have d1 : (((k.length : Nat) : Int) != 32) = true := by
      simp only [bne_iff_ne, ne_eq]
      omega
  all_goals
    have H : Hid _ := h
    clear h h1
    go_enter Tryd.func58, Tryd.ntmps58
    go_wp2
    go_ret
    exact ⟨rfl, rfl⟩

set_option maxRecDepth 100000 in
set_option maxHeartbeats 8000000 in
theorem blockR_any (vk vn : Value) (k n : List UInt8) (c : Nat) (C : Int) (hC : C = (c : Int)) (hc64 : c < 18446744073709551616) (w : World) (hk : Rd w vk k) (hn : Rd w vn n) (hk32 : k.length = 32) (hn12 : n.length = 12) :
    Calls Tryd.prog 58 #[vk, .int .u64 C, vn] w fun e w' => ∃ r, e = .returned r ∧ New 5 w r (bkL k c n) w' := by
  subst hC
  obtain ⟨bk, ok, ck, rfl, hck, -, -⟩ := hk.cellAt (i := 0) (by omega)
  obtain ⟨bn, on, cn, rfl, hcn, -, -⟩ := hn.cellAt (i := 0) (by omega)
  obtain ⟨a', c', ev, -, hmk, -, -⟩ := id hk
  simp only [Value.slice.injEq] at ev
  obtain ⟨-, -, rfl⟩ := ev
  obtain ⟨a'', c'', ev, -, hmn, -, -⟩ := id hn
  simp only [Value.slice.injEq] at ev
  obtain ⟨-, -, rfl⟩ := ev
  unfold maxLen at hmk hmn
  rw [hk32] at hk hck ⊢
  rw [hn12] at hn hcn ⊢
  have HK : Hid (Rd w (.slice (some ⟨bk, ok, none⟩) 32 ck) k) := hk
  have HN : Hid (Rd w (.slice (some ⟨bn, on, none⟩) 12 cn) n) := hn
  clear hk hn hk32 hn12
  have hckI : (32 : Int) ≤ (ck : Int) := by omega
  have hcnI : (12 : Int) ≤ (cn : Int) := by omega
  obtain ⟨cm, hcm⟩ : ∃ m : Nat, m = c % 4294967296 := ⟨_, rfl⟩
  have y1 : ((c : Nat) : Int).tmod 4294967296 = (cm : Int) := by rw [Int.tmod_eq_emod_of_nonneg (by omega)]; omega
  have hcml : cm < 4294967296 := by omega
  have y2 : IntKind.u64.wrap (cm : Int) = (cm : Int) := by rw [IntKind.wrap_u64]; omega
  have HCM : Hid _ := hcm
  clear hcm
  have HW : Hid (W16 (bkW k c n)) := bkW_ok k c n
  have HWE : Hid (bkW k c n = pW (pW kst7 k 8 ++ [cm]) n 3) := by show _ = _; rw [HCM.out]; rfl
  have HPL : Hid (kst7.length = 4) := by show _ = _; rfl
  go_enter Tryd.func58, Tryd.ntmps58
  have hL : NewI .u64 22 w (.slice (some ⟨w.heap.size, 0, none⟩) 4 4) (nI (pW kst7 k 0)) (w.alloc (.cells #[.int .u64 1634760805, .int .u64 857760878, .int .u64 2036477234, .int .u64 1797285236] 22)) := NewI.lit (nI kst7) rfl rfl rfl (by decide)
  go_wp2
  generalize w.alloc (.cells #[.int .u64 1634760805, .int .u64 857760878, .int .u64 2036477234, .int .u64 1797285236] 22) = w1 at hL ⊢
  go_loopw [7, 8] (fun v iv wx => ∃ i : Nat, i ≤ 8 ∧ iv = .int .i64 (i : Int) ∧ NewI .u64 22 w v (nI (pW kst7 k i)) wx) (fun _ iv _ => 8 - (intOf iv).toNat)
  case atStart => exact ⟨0, by omega, rfl, hL⟩
  case round =>
    obtain ⟨i, hi, rfl, hN⟩ := hrel
    clear hL
    by_cases hlt : i < 8
    · have hd : decide ((i : Int) < 8) = true := decide_eq_true (by omega)
      have hiI : (i : Int) < 8 := by omega
      obtain ⟨m, hm⟩ : ∃ m : Nat, m = 4 * i := ⟨_, rfl⟩
      have hsub := (Rd.kept HK.out hN.2).sub (4 * i) (4 * i + 4) (by omega) (by omega)
      have hld := refload_any _ _ _ hsub
      rw [Nat.add_sub_cancel_left, w4_load, ← hm] at hld
      have x1 : IntKind.i64.wrap (4 * (i : Int)) = (m : Int) := by rw [show 4 * (i : Int) = (m : Int) by omega]; exact IntWalk.i64_in _ (by omega)
      have x2 : IntKind.i64.wrap ((m : Int) + 4) = ((m + 4 : Nat) : Int) := IntWalk.i64_in _ (by omega)
      have hm1 : (m : Int) + 4 ≤ 32 := by omega
      have hm2 : m + 4 ≤ 32 := by omega
      have hm3 : m + 4 ≤ ck := by omega
      have hm4 : (m : Int) + 4 ≤ (ck : Int) := by omega
      have HLD : Hid (Calls Tryd.prog 71 #[.slice (some ⟨bk, ok + m, none⟩) 4 (ck - m)] wr fun e w' => e = .returned (.int .u64 ((w4 k i : Nat) : Int)) ∧ w' = wr) := hld
      have HNx : Hid _ := pW_next kst7 k i
      have HLn : Hid ((nI (pW kst7 k i)).length ≤ 100) := by
        show _ ≤ _
        rw [nI_length, pW_length, HPL.out]
        omega
      generalize w4 k i = z at HLD HNx
      have hLt : RdI .u64 (wr.alloc (.cells #[.int .u64 (z : Int)] 22)) (.slice (some ⟨wr.heap.size, 0, none⟩) 1 1) [(z : Int)] := lit1I _
      clear hsub hld hm
      go_wp2_with fail
      refine Calls.mono HLD.out ?_
      rintro e w5 ⟨rfl, rfl⟩
      go_wp2_with (at_builtin; go_must (refine wpList_append_newI (k := .u64) (w := w) rfl _ _ 25 rfl 22 Tryd.underlying25 8 infoU64c _ _ rfl (hN.alloc _) _ _ rfl hLt (by have := HLn.out; simp only [List.length_singleton]; omega) (by have := HLn.out; simp only [List.length_singleton]; omega) ?_))
      intro v6 w6 hN6 _
      rw [HNx.out] at hN6
      clear hN hLt
      go_wp2
      go_roundw
      case rel => exact ⟨i + 1, by omega, by go_num, hN6⟩
      case measure => simp [intOf] <;> omega
    · have hie : i = 8 := by omega
      have hd : decide ((i : Int) < 8) = false := decide_eq_false (by omega)
      have hiI : (8 : Int) ≤ (i : Int) := by omega
      rw [hie] at hN
      clear hie hlt
      have hLt : RdI .u64 (wr.alloc (.cells #[.int .u64 (cm : Int)] 22)) (.slice (some ⟨wr.heap.size, 0, none⟩) 1 1) [(cm : Int)] := lit1I _
      have HLn : Hid ((nI (pW kst7 k 8)).length ≤ 100) := by
        show _ ≤ _
        rw [nI_length, pW_length, HPL.out]
        omega
      go_wp2_with (at_builtin; go_must (refine wpList_append_newI (k := .u64) (w := w) rfl _ _ 25 rfl 22 Tryd.underlying25 8 infoU64c _ _ rfl (hN.alloc _) _ _ rfl hLt (by have := HLn.out; simp only [List.length_singleton]; omega) (by have := HLn.out; simp only [List.length_singleton]; omega) ?_))
      intro v6 w6 hN6 _
      obtain ⟨P2, hP2⟩ : ∃ P : List Nat, P = pW kst7 k 8 ++ [cm] := ⟨_, rfl⟩
      have hM : NewI .u64 22 w v6 (nI (pW P2 n 0)) w6 := by
        rw [pW_zero, hP2, ← nI_append]
        exact hN6
      rw [← hP2] at HWE
      replace HPL : Hid (P2.length = 13) := by show _ = _; rw [hP2, List.length_append, pW_length, HPL.out]; rfl
      clear hN hLt hN6 HLn hP2
      go_wp2
      go_loopw [7, 9] (fun v iv wx => ∃ i : Nat, i ≤ 3 ∧ iv = .int .i64 (i : Int) ∧ NewI .u64 22 w v (nI (pW P2 n i)) wx) (fun _ iv _ => 3 - (intOf iv).toNat)
      case atStart => exact ⟨0, by omega, rfl, hM⟩
      case round =>
        obtain ⟨i, hi, rfl, hN⟩ := hrel
        clear hM
        by_cases hlt : i < 3
        · have hd : decide ((i : Int) < 3) = true := decide_eq_true (by omega)
          have hiI : (i : Int) < 3 := by omega
          obtain ⟨m, hm⟩ : ∃ m : Nat, m = 4 * i := ⟨_, rfl⟩
          have hsub := (Rd.kept HN.out hN.2).sub (4 * i) (4 * i + 4) (by omega) (by omega)
          have hld := refload_any _ _ _ hsub
          rw [Nat.add_sub_cancel_left, w4_load, ← hm] at hld
          have x1 : IntKind.i64.wrap (4 * (i : Int)) = (m : Int) := by rw [show 4 * (i : Int) = (m : Int) by omega]; exact IntWalk.i64_in _ (by omega)
          have x2 : IntKind.i64.wrap ((m : Int) + 4) = ((m + 4 : Nat) : Int) := IntWalk.i64_in _ (by omega)
          have hm1 : (m : Int) + 4 ≤ 12 := by omega
          have hm2 : m + 4 ≤ 12 := by omega
          have hm3 : m + 4 ≤ cn := by omega
          have hm4 : (m : Int) + 4 ≤ (cn : Int) := by omega
          have HLD : Hid (Calls Tryd.prog 71 #[.slice (some ⟨bn, on + m, none⟩) 4 (cn - m)] wr fun e w' => e = .returned (.int .u64 ((w4 n i : Nat) : Int)) ∧ w' = wr) := hld
          have HNx : Hid _ := pW_next P2 n i
          have HLn : Hid ((nI (pW P2 n i)).length ≤ 100) := by
            show _ ≤ _
            rw [nI_length, pW_length, HPL.out]
            omega
          generalize w4 n i = z at HLD HNx
          have hLt : RdI .u64 (wr.alloc (.cells #[.int .u64 (z : Int)] 22)) (.slice (some ⟨wr.heap.size, 0, none⟩) 1 1) [(z : Int)] := lit1I _
          clear hsub hld hm
          go_wp2_with fail
          refine Calls.mono HLD.out ?_
          rintro e w5 ⟨rfl, rfl⟩
          go_wp2_with (at_builtin; go_must (refine wpList_append_newI (k := .u64) (w := w) rfl _ _ 25 rfl 22 Tryd.underlying25 8 infoU64c _ _ rfl (hN.alloc _) _ _ rfl hLt (by have := HLn.out; simp only [List.length_singleton]; omega) (by have := HLn.out; simp only [List.length_singleton]; omega) ?_))
          intro v6 w6 hN6 _
          rw [HNx.out] at hN6
          clear hN hLt
          go_wp2
          go_roundw
          case rel => exact ⟨i + 1, by omega, by go_num, hN6⟩
          case measure => simp [intOf] <;> omega
        · have hie : i = 3 := by omega
          have hd : decide ((i : Int) < 3) = false := decide_eq_false (by omega)
          have hiI : (3 : Int) ≤ (i : Int) := by omega
          rw [hie] at hN
          clear hie hlt
          rw [← HWE.out] at hN
          have hb1 := hN.2
          have hRw := hN.rd
          clear hN
          obtain ⟨W, hWdef⟩ : ∃ W : List Nat, W = bkW k c n := ⟨_, rfl⟩
          rw [← hWdef] at HW hRw
          have HWD : Hid _ := hWdef
          clear hWdef
          have hne : nI W ≠ [] := nI_ne (by rw [← List.length_pos_iff, HW.out.1]; decide)
          obtain ⟨gw, ow, cw, rfl, hcw, hcw2, hgw, hcellw⟩ := hRw.cells hne
          unfold maxLen at hcw2
          have hlW : (nI W).length = 16 := by rw [nI_length]; exact HW.out.1
          rw [hlW] at hcw hRw hcellw ⊢
          have hV0 : NewI .u64 22 wr (.slice none 0 0) [] wr := NewI.start wr
          have HLW : Hid ((nI W).length = 16) := hlW
          rename World => wV
          clear hlW
          go_wp2_with (at_builtin; go_must (refine wpList_append_newI (k := .u64) (w := wV) rfl _ _ 25 rfl 22 Tryd.underlying25 8 infoU64c _ _ rfl hV0 _ _ rfl hRw (by rw [HLW.out]; decide) (by rw [HLW.out]; decide) ?_))
          intro v7 w7 hN7 _
          obtain ⟨gv, cv, rfl, -, -, hcv, hcv2, -, -, -⟩ := hN7.all hne
          unfold maxLen at hcv2
          rw [HLW.out] at hN7 hcv ⊢
          have hN0 : NewI .u64 22 wV (.slice (some ⟨gv, 0, none⟩) 16 cv) (nI (qDbl W 0)) w7 := hN7
          clear hN7 hV0 hRw
          go_wp2
          go_loopw [11] (fun iv wx => ∃ i : Nat, i ≤ 10 ∧ iv = .int .i64 (i : Int) ∧ NewI .u64 22 wV (.slice (some ⟨gv, 0, none⟩) 16 cv) (nI (qDbl W i)) wx) (fun iv _ => 10 - (intOf iv).toNat)
          case atStart => exact ⟨0, by omega, rfl, hN0⟩
          case round =>
            obtain ⟨i, hi, rfl, hN⟩ := hrel
            clear hN0
            by_cases hlt : i < 10
            · have hd : decide ((i : Int) < 10) = true := decide_eq_true (by omega)
              have hiI : (i : Int) < 10 := by omega
              have hNc : NewI .u64 22 wV (.slice (some ⟨gv, 0, none⟩) 16 cv) (nI (qCol (qDbl W i) 0)) wr := hN
              clear hN
              go_wp2
              go_loopw [12] (fun kv wx => ∃ k : Nat, k ≤ 4 ∧ kv = .int .i64 (k : Int) ∧ NewI .u64 22 wV (.slice (some ⟨gv, 0, none⟩) 16 cv) (nI (qCol (qDbl W i) k)) wx) (fun kv _ => 4 - (intOf kv).toNat)
              case atStart => exact ⟨0, by omega, rfl, hNc⟩
              case round =>
                obtain ⟨k', hk', rfl, hN⟩ := hrel
                clear hNc
                by_cases hltk : k' < 4
                · have hdk : decide ((k' : Int) < 4) = true := decide_eq_true (by omega)
                  have hkI : (k' : Int) < 4 := by omega
                  have HV : Hid (W16 (qCol (qDbl W i) k')) := qCol_ok (qDbl_ok HW.out i) k'
                  have HNext : Hid (qAt (qCol (qDbl W i) k') k' (k' + 4) (k' + 8) (k' + 12) = qCol (qDbl W i) (k' + 1)) := by show _ = _; rfl
                  generalize qCol (qDbl W i) k' = V at hN HV HNext
                  obtain ⟨k4, k8, k12, hk4, hk8, hk12, x1, x2, x3, l0, l1, l2, l3, m0, m1, m2, m3⟩ := col_facts k' hltk
                  rw [← hk4, ← hk8, ← hk12] at HNext
                  clear hk4 hk8 hk12
                  have hlV : (nI V).length = 16 := by rw [nI_length]; exact HV.out.1
                  have c0 := (hN.place (j := k') (by omega)).2.2.1
                  have c1 := (hN.place (j := k4) (by omega)).2.2.1
                  have c2 := (hN.place (j := k8) (by omega)).2.2.1
                  have c3 := (hN.place (j := k12) (by omega)).2.2.1
                  rw [nI_get] at c0 c1 c2 c3
                  have HlV : Hid _ := hlV
                  clear hlV
                  go_wp2_with fail
                  have hB : Below wr.heap.size wr wr.drew := (Below.refl _ _).drew
                  refine wpF_begin 37 (w0 := wr) (by kernel_rfl) ?_
                  refine fP_ (.inr hB) 0 rfl ⟨_, by intro W; go_simp <;> with_reducible rfl, ?_⟩
                  try simp only [Act.put, pA_, pB_, pC_]
                  refine fP_ (.inr hB) 1 rfl ⟨_, by intro W; go_simp <;> with_reducible rfl, ?_⟩
                  try simp only [Act.put, pA_, pB_, pC_]
                  refine fP_ (.inr hB) 2 rfl ⟨_, by intro W; go_simp <;> with_reducible rfl, ?_⟩
                  try simp only [Act.put, pA_, pB_, pC_]
                  refine fP_ (.inr hB) 3 rfl ⟨_, by intro W; go_simp <;> with_reducible rfl, ?_⟩
                  try simp only [Act.put, pA_, pB_, pC_]
                  refine fP_ (.inr hB) 4 rfl ⟨_, by intro W; go_simp <;> with_reducible rfl, ?_⟩
                  try simp only [Act.put, pA_, pB_, pC_]
                  refine fP_ (.inr hB) 5 rfl ⟨_, by intro W; go_simp <;> with_reducible rfl, ?_⟩
                  try simp only [Act.put, pA_, pB_, pC_]
                  refine fP_ (.inr hB) 6 rfl ⟨_, by intro W; go_simp <;> with_reducible rfl, ?_⟩
                  try simp only [Act.put, pA_, pB_, pC_]
                  refine fP_ (.inr hB) 7 rfl ⟨_, by intro W; go_simp <;> with_reducible rfl, ?_⟩
                  try simp only [Act.put, pA_, pB_, pC_]
                  refine fP_ (.inr hB) 8 rfl ⟨_, by intro W; go_simp <;> with_reducible rfl, ?_⟩
                  try simp only [Act.put, pA_, pB_, pC_]
                  refine fP_ (.inr hB) 9 rfl ⟨_, by intro W; go_simp <;> with_reducible rfl, ?_⟩
                  try simp only [Act.put, pA_, pB_, pC_]
                  refine fP_ (.inr hB) 10 rfl ⟨_, by intro W; go_simp <;> with_reducible rfl, ?_⟩
                  try simp only [Act.put, pA_, pB_, pC_]
                  refine fP_ (.inr hB) 11 rfl ⟨_, by intro W; go_simp <;> with_reducible rfl, ?_⟩
                  try simp only [Act.put, pA_, pB_, pC_]
                  refine fP_ (.inr hB) 12 rfl ⟨_, by intro W; go_simp <;> with_reducible rfl, ?_⟩
                  try simp only [Act.put, pA_, pB_, pC_]
                  refine fP_ (.inr hB) 13 rfl ⟨_, by intro W; go_simp <;> with_reducible rfl, ?_⟩
                  try simp only [Act.put, pA_, pB_, pC_]
                  refine fU_ hB 14 rfl ⟨_, by intro W hW; have hcW := cellK0 c0 hW; go_simp <;> with_reducible rfl, ?_⟩
                  try simp only [Act.put, pA_, pB_, pC_]
                  refine fP_ (.inr hB) 15 rfl ⟨_, by intro W; go_simp <;> with_reducible rfl, ?_⟩
                  try simp only [Act.put, pA_, pB_, pC_]
                  refine fP_ (.inr hB) 16 rfl ⟨_, by intro W; go_simp <;> with_reducible rfl, ?_⟩
                  try simp only [Act.put, pA_, pB_, pC_]
                  refine fP_ (.inr hB) 17 rfl ⟨_, by intro W; go_simp <;> with_reducible rfl, ?_⟩
                  try simp only [Act.put, pA_, pB_, pC_]
                  refine fP_ (.inr hB) 18 rfl ⟨_, by intro W; go_simp <;> with_reducible rfl, ?_⟩
                  try simp only [Act.put, pA_, pB_, pC_]
                  refine fU_ hB 19 rfl ⟨_, by intro W hW; have hcW := cellK0 c1 hW; go_simp <;> with_reducible rfl, ?_⟩
                  try simp only [Act.put, pA_, pB_, pC_]
                  refine fP_ (.inr hB) 20 rfl ⟨_, by intro W; go_simp <;> with_reducible rfl, ?_⟩
                  try simp only [Act.put, pA_, pB_, pC_]
                  refine fP_ (.inr hB) 21 rfl ⟨_, by intro W; go_simp <;> with_reducible rfl, ?_⟩
                  try simp only [Act.put, pA_, pB_, pC_]
                  refine fP_ (.inr hB) 22 rfl ⟨_, by intro W; go_simp <;> with_reducible rfl, ?_⟩
                  try simp only [Act.put, pA_, pB_, pC_]
                  refine fP_ (.inr hB) 23 rfl ⟨_, by intro W; go_simp <;> with_reducible rfl, ?_⟩
                  try simp only [Act.put, pA_, pB_, pC_]
                  refine fU_ hB 24 rfl ⟨_, by intro W hW; have hcW := cellK0 c2 hW; go_simp <;> with_reducible rfl, ?_⟩
                  try simp only [Act.put, pA_, pB_, pC_]
                  refine fP_ (.inr hB) 25 rfl ⟨_, by intro W; go_simp <;> with_reducible rfl, ?_⟩
                  try simp only [Act.put, pA_, pB_, pC_]
                  refine fP_ (.inr hB) 26 rfl ⟨_, by intro W; go_simp <;> with_reducible rfl, ?_⟩
                  try simp only [Act.put, pA_, pB_, pC_]
                  refine fP_ (.inr hB) 27 rfl ⟨_, by intro W; go_simp <;> with_reducible rfl, ?_⟩
                  try simp only [Act.put, pA_, pB_, pC_]
                  refine fP_ (.inr hB) 28 rfl ⟨_, by intro W; go_simp <;> with_reducible rfl, ?_⟩
                  try simp only [Act.put, pA_, pB_, pC_]
                  refine fU_ hB 29 rfl ⟨_, by intro W hW; have hcW := cellK0 c3 hW; go_simp <;> with_reducible rfl, ?_⟩
                  try simp only [Act.put, pA_, pB_, pC_]
                  refine fD_ 30 fun K hK => ?_
                  go_simp
                  refine (quarterR_any (q4 V k' k4 k8 k12) (q4_ok HV.out k' k4 k8 k12) _ _ _ _ rfl rfl rfl rfl _).mono ?_
                  rintro e w5 ⟨rfl, b5⟩
                  replace hB := stepB hB b5
                  have hN5 := hN.drew.kept b5
                  refine hK.out _ _ (.inr hB) ?_
                  clear hK K
                  try simp only [Act.put, pA_, pB_, pC_]
                  refine fP_ (.inr hB) 31 rfl ⟨_, by intro W; go_simp <;> with_reducible rfl, ?_⟩
                  try simp only [Act.put, pA_, pB_, pC_]
                  refine fP_ (.inr hB) 32 rfl ⟨_, by intro W; go_simp <;> with_reducible rfl, ?_⟩
                  try simp only [Act.put, pA_, pB_, pC_]
                  refine fP_ (.inr hB) 33 rfl ⟨_, by intro W; go_simp <;> with_reducible rfl, ?_⟩
                  try simp only [Act.put, pA_, pB_, pC_]
                  refine fP_ (.inr hB) 34 rfl ⟨_, by intro W; go_simp <;> with_reducible rfl, ?_⟩
                  try simp only [Act.put, pA_, pB_, pC_]
                  refine fP_ (.inr hB) 35 rfl ⟨_, by intro W; go_simp <;> with_reducible rfl, ?_⟩
                  try simp only [Act.put, pA_, pB_, pC_]
                  refine fP_ (.inr hB) 36 rfl ⟨_, by intro W; go_simp <;> with_reducible rfl, ?_⟩
                  try simp only [Act.put, pA_, pB_, pC_]
                  refine fD_ 37 fun K hK => ?_
                  refine wp_store_word _ _ rfl rfl _ rfl hN5 (by rw [nI_length, HV.out.1]; omega) ?_
                  intro w6 hN6
                  rw [nI_set] at hN6
                  refine hK.out _ _ (.inl rfl) ?_
                  clear hK K
                  try simp only [Act.put, pA_, pB_, pC_]
                  refine fP_ (.inl (by kernel_rfl)) 38 rfl ⟨_, by intro W; go_simp <;> with_reducible rfl, ?_⟩
                  try simp only [Act.put, pA_, pB_, pC_]
                  refine fM_ 39 fun K hK => ?_
                  refine wp_store_word _ _ rfl rfl _ rfl hN6 (by simp only [nI_length, List.length_set]; rw [HV.out.1]; omega) ?_
                  intro w7 hN7
                  rw [nI_set] at hN7
                  refine hK.out _ _ ?_
                  clear hK K
                  try simp only [Act.put, pA_, pB_, pC_]
                  refine fP_ (.inl (by kernel_rfl)) 40 rfl ⟨_, by intro W; go_simp <;> with_reducible rfl, ?_⟩
                  try simp only [Act.put, pA_, pB_, pC_]
                  refine fM_ 41 fun K hK => ?_
                  refine wp_store_word _ _ rfl rfl _ rfl hN7 (by simp only [nI_length, List.length_set]; rw [HV.out.1]; omega) ?_
                  intro w8 hN8
                  rw [nI_set] at hN8
                  refine hK.out _ _ ?_
                  clear hK K
                  try simp only [Act.put, pA_, pB_, pC_]
                  refine fP_ (.inl (by kernel_rfl)) 42 rfl ⟨_, by intro W; go_simp <;> with_reducible rfl, ?_⟩
                  try simp only [Act.put, pA_, pB_, pC_]
                  refine fM_ 43 fun K hK => ?_
                  refine wp_store_word _ _ rfl rfl _ rfl hN8 (by simp only [nI_length, List.length_set]; rw [HV.out.1]; omega) ?_
                  intro w9 hN9
                  rw [nI_set] at hN9
                  refine hK.out _ _ ?_
                  clear hK K
                  try simp only [Act.put, pA_, pB_, pC_]
                  refine wpF_done (by kernel_rfl) ?_
                  have hN10 : NewI .u64 22 wV (.slice (some ⟨gv, 0, none⟩) 16 cv) (nI (qCol (qDbl W i) (k' + 1))) w9 := by
                    rw [← HNext.out]
                    exact hN9
                  clear hN c0 c1 c2 c3 hN5 hN6 hN7 hN8 hN9 hB b5
                  go_wp2
                  go_roundw
                  case rel => exact ⟨k' + 1, by omega, by go_num, hN10⟩
                  case measure => simp [intOf] <;> omega
                · have hke : k' = 4 := by omega
                  have hdk : decide ((k' : Int) < 4) = false := decide_eq_false (by omega)
                  have hkI : (4 : Int) ≤ (k' : Int) := by omega
                  have hNd : NewI .u64 22 wV (.slice (some ⟨gv, 0, none⟩) 16 cv) (nI (qDia (qCol (qDbl W i) 4) 0)) wr := by
                    rw [← hke]
                    exact hN
                  clear hN hke
                  go_wp2
                  go_loopw [13] (fun kv wx => ∃ k : Nat, k ≤ 4 ∧ kv = .int .i64 (k : Int) ∧ NewI .u64 22 wV (.slice (some ⟨gv, 0, none⟩) 16 cv) (nI (qDia (qCol (qDbl W i) 4) k)) wx) (fun kv _ => 4 - (intOf kv).toNat)
                  case atStart => exact ⟨0, by omega, rfl, hNd⟩
                  case round =>
                    obtain ⟨k', hk', rfl, hN⟩ := hrel
                    clear hNd
                    by_cases hltk : k' < 4
                    · have hdk : decide ((k' : Int) < 4) = true := decide_eq_true (by omega)
                      have hkI : (k' : Int) < 4 := by omega
                      have HV : Hid (W16 (qDia (qCol (qDbl W i) 4) k')) := qDia_ok (qCol_ok (qDbl_ok HW.out i) 4) k'
                      have HNext : Hid (qAt (qDia (qCol (qDbl W i) 4) k') k' (4 + (k' + 1) % 4) (8 + (k' + 2) % 4) (12 + (k' + 3) % 4) = qDia (qCol (qDbl W i) 4) (k' + 1)) := by show _ = _; rfl
                      generalize qDia (qCol (qDbl W i) 4) k' = V at hN HV HNext
                      obtain ⟨r4, r8, r12, k4, k8, k12, hk4, hk8, hk12, z1, z2, z3, t1, t2, t3, t4, t5, t6, x1, x2, x3, l0, l1, l2, l3, m0, m1, m2, m3⟩ := dia_facts k' hltk
                      rw [← hk4, ← hk8, ← hk12] at HNext
                      clear hk4 hk8 hk12
                      have hlV : (nI V).length = 16 := by rw [nI_length]; exact HV.out.1
                      have c0 := (hN.place (j := k') (by omega)).2.2.1
                      have c1 := (hN.place (j := k4) (by omega)).2.2.1
                      have c2 := (hN.place (j := k8) (by omega)).2.2.1
                      have c3 := (hN.place (j := k12) (by omega)).2.2.1
                      rw [nI_get] at c0 c1 c2 c3
                      have HlV : Hid _ := hlV
                      clear hlV
                      go_wp2_with fail
                      have hB : Below wr.heap.size wr wr.drew := (Below.refl _ _).drew
                      refine wpF_begin 31 (w0 := wr) (by kernel_rfl) ?_
                      refine fP_ (.inr hB) 0 rfl ⟨_, by intro W; go_simp <;> with_reducible rfl, ?_⟩
                      try simp only [Act.put, pA_, pB_, pC_]
                      refine fP_ (.inr hB) 1 rfl ⟨_, by intro W; go_simp <;> with_reducible rfl, ?_⟩
                      try simp only [Act.put, pA_, pB_, pC_]
                      refine fP_ (.inr hB) 2 rfl ⟨_, by intro W; go_simp <;> with_reducible rfl, ?_⟩
                      try simp only [Act.put, pA_, pB_, pC_]
                      refine fP_ (.inr hB) 3 rfl ⟨_, by intro W; go_simp <;> with_reducible rfl, ?_⟩
                      try simp only [Act.put, pA_, pB_, pC_]
                      refine fP_ (.inr hB) 4 rfl ⟨_, by intro W; go_simp <;> with_reducible rfl, ?_⟩
                      try simp only [Act.put, pA_, pB_, pC_]
                      refine fP_ (.inr hB) 5 rfl ⟨_, by intro W; go_simp <;> with_reducible rfl, ?_⟩
                      try simp only [Act.put, pA_, pB_, pC_]
                      refine fP_ (.inr hB) 6 rfl ⟨_, by intro W; go_simp <;> with_reducible rfl, ?_⟩
                      try simp only [Act.put, pA_, pB_, pC_]
                      refine fP_ (.inr hB) 7 rfl ⟨_, by intro W; go_simp <;> with_reducible rfl, ?_⟩
                      try simp only [Act.put, pA_, pB_, pC_]
                      refine fP_ (.inr hB) 8 rfl ⟨_, by intro W; go_simp <;> with_reducible rfl, ?_⟩
                      try simp only [Act.put, pA_, pB_, pC_]
                      refine fP_ (.inr hB) 9 rfl ⟨_, by intro W; go_simp <;> with_reducible rfl, ?_⟩
                      try simp only [Act.put, pA_, pB_, pC_]
                      refine fP_ (.inr hB) 10 rfl ⟨_, by intro W; go_simp <;> with_reducible rfl, ?_⟩
                      try simp only [Act.put, pA_, pB_, pC_]
                      refine fU_ hB 11 rfl ⟨_, by intro W hW; have hcW := cellK0 c0 hW; go_simp <;> with_reducible rfl, ?_⟩
                      try simp only [Act.put, pA_, pB_, pC_]
                      refine fP_ (.inr hB) 12 rfl ⟨_, by intro W; go_simp <;> with_reducible rfl, ?_⟩
                      try simp only [Act.put, pA_, pB_, pC_]
                      refine fP_ (.inr hB) 13 rfl ⟨_, by intro W; go_simp <;> with_reducible rfl, ?_⟩
                      try simp only [Act.put, pA_, pB_, pC_]
                      refine fP_ (.inr hB) 14 rfl ⟨_, by intro W; go_simp <;> with_reducible rfl, ?_⟩
                      try simp only [Act.put, pA_, pB_, pC_]
                      refine fU_ hB 15 rfl ⟨_, by intro W hW; have hcW := cellK0 c1 hW; go_simp <;> with_reducible rfl, ?_⟩
                      try simp only [Act.put, pA_, pB_, pC_]
                      refine fP_ (.inr hB) 16 rfl ⟨_, by intro W; go_simp <;> with_reducible rfl, ?_⟩
                      try simp only [Act.put, pA_, pB_, pC_]
                      refine fP_ (.inr hB) 17 rfl ⟨_, by intro W; go_simp <;> with_reducible rfl, ?_⟩
                      try simp only [Act.put, pA_, pB_, pC_]
                      refine fP_ (.inr hB) 18 rfl ⟨_, by intro W; go_simp <;> with_reducible rfl, ?_⟩
                      try simp only [Act.put, pA_, pB_, pC_]
                      refine fU_ hB 19 rfl ⟨_, by intro W hW; have hcW := cellK0 c2 hW; go_simp <;> with_reducible rfl, ?_⟩
                      try simp only [Act.put, pA_, pB_, pC_]
                      refine fP_ (.inr hB) 20 rfl ⟨_, by intro W; go_simp <;> with_reducible rfl, ?_⟩
                      try simp only [Act.put, pA_, pB_, pC_]
                      refine fP_ (.inr hB) 21 rfl ⟨_, by intro W; go_simp <;> with_reducible rfl, ?_⟩
                      try simp only [Act.put, pA_, pB_, pC_]
                      refine fP_ (.inr hB) 22 rfl ⟨_, by intro W; go_simp <;> with_reducible rfl, ?_⟩
                      try simp only [Act.put, pA_, pB_, pC_]
                      refine fU_ hB 23 rfl ⟨_, by intro W hW; have hcW := cellK0 c3 hW; go_simp <;> with_reducible rfl, ?_⟩
                      try simp only [Act.put, pA_, pB_, pC_]
                      refine fD_ 24 fun K hK => ?_
                      go_simp
                      refine (quarterR_any (q4 V k' k4 k8 k12) (q4_ok HV.out k' k4 k8 k12) _ _ _ _ rfl rfl rfl rfl _).mono ?_
                      rintro e w5 ⟨rfl, b5⟩
                      replace hB := stepB hB b5
                      have hN5 := hN.drew.kept b5
                      refine hK.out _ _ (.inr hB) ?_
                      clear hK K
                      try simp only [Act.put, pA_, pB_, pC_]
                      refine fP_ (.inr hB) 25 rfl ⟨_, by intro W; go_simp <;> with_reducible rfl, ?_⟩
                      try simp only [Act.put, pA_, pB_, pC_]
                      refine fP_ (.inr hB) 26 rfl ⟨_, by intro W; go_simp <;> with_reducible rfl, ?_⟩
                      try simp only [Act.put, pA_, pB_, pC_]
                      refine fP_ (.inr hB) 27 rfl ⟨_, by intro W; go_simp <;> with_reducible rfl, ?_⟩
                      try simp only [Act.put, pA_, pB_, pC_]
                      refine fP_ (.inr hB) 28 rfl ⟨_, by intro W; go_simp <;> with_reducible rfl, ?_⟩
                      try simp only [Act.put, pA_, pB_, pC_]
                      refine fP_ (.inr hB) 29 rfl ⟨_, by intro W; go_simp <;> with_reducible rfl, ?_⟩
                      try simp only [Act.put, pA_, pB_, pC_]
                      refine fP_ (.inr hB) 30 rfl ⟨_, by intro W; go_simp <;> with_reducible rfl, ?_⟩
                      try simp only [Act.put, pA_, pB_, pC_]
                      refine fD_ 31 fun K hK => ?_
                      refine wp_store_word _ _ rfl rfl _ rfl hN5 (by rw [nI_length, HV.out.1]; omega) ?_
                      intro w6 hN6
                      rw [nI_set] at hN6
                      refine hK.out _ _ (.inl rfl) ?_
                      clear hK K
                      try simp only [Act.put, pA_, pB_, pC_]
                      refine fP_ (.inl (by kernel_rfl)) 32 rfl ⟨_, by intro W; go_simp <;> with_reducible rfl, ?_⟩
                      try simp only [Act.put, pA_, pB_, pC_]
                      refine fM_ 33 fun K hK => ?_
                      refine wp_store_word _ _ rfl rfl _ rfl hN6 (by simp only [nI_length, List.length_set]; rw [HV.out.1]; omega) ?_
                      intro w7 hN7
                      rw [nI_set] at hN7
                      refine hK.out _ _ ?_
                      clear hK K
                      try simp only [Act.put, pA_, pB_, pC_]
                      refine fP_ (.inl (by kernel_rfl)) 34 rfl ⟨_, by intro W; go_simp <;> with_reducible rfl, ?_⟩
                      try simp only [Act.put, pA_, pB_, pC_]
                      refine fM_ 35 fun K hK => ?_
                      refine wp_store_word _ _ rfl rfl _ rfl hN7 (by simp only [nI_length, List.length_set]; rw [HV.out.1]; omega) ?_
                      intro w8 hN8
                      rw [nI_set] at hN8
                      refine hK.out _ _ ?_
                      clear hK K
                      try simp only [Act.put, pA_, pB_, pC_]
                      refine fP_ (.inl (by kernel_rfl)) 36 rfl ⟨_, by intro W; go_simp <;> with_reducible rfl, ?_⟩
                      try simp only [Act.put, pA_, pB_, pC_]
                      refine fM_ 37 fun K hK => ?_
                      refine wp_store_word _ _ rfl rfl _ rfl hN8 (by simp only [nI_length, List.length_set]; rw [HV.out.1]; omega) ?_
                      intro w9 hN9
                      rw [nI_set] at hN9
                      refine hK.out _ _ ?_
                      clear hK K
                      try simp only [Act.put, pA_, pB_, pC_]
                      refine wpF_done (by kernel_rfl) ?_
                      have hN10 : NewI .u64 22 wV (.slice (some ⟨gv, 0, none⟩) 16 cv) (nI (qDia (qCol (qDbl W i) 4) (k' + 1))) w9 := by
                        rw [← HNext.out]
                        exact hN9
                      clear hN c0 c1 c2 c3 hN5 hN6 hN7 hN8 hN9 hB b5
                      go_wp2
                      go_roundw
                      case rel => exact ⟨k' + 1, by omega, by go_num, hN10⟩
                      case measure => simp [intOf] <;> omega
                    · have hke : k' = 4 := by omega
                      have hdk : decide ((k' : Int) < 4) = false := decide_eq_false (by omega)
                      have hkI : (4 : Int) ≤ (k' : Int) := by omega
                      have hNe : NewI .u64 22 wV (.slice (some ⟨gv, 0, none⟩) 16 cv) (nI (qDbl W (i + 1))) wr := by
                        rw [hke] at hN
                        exact hN
                      clear hN hke
                      go_wp2
                      go_roundw
                      case rel => exact ⟨i + 1, by omega, by go_num, hNe⟩
                      case measure => simp [intOf] <;> omega
            · have hie : i = 10 := by omega
              have hd : decide ((i : Int) < 10) = false := decide_eq_false (by omega)
              have hiI : (10 : Int) ≤ (i : Int) := by omega
              rw [hie] at hN
              clear hie
              have HV : Hid (W16 (qDbl W 10)) := qDbl_ok HW.out 10
              have HF : Hid (bkL k c n = wB (fun i => ((qDbl W 10).getD i 0 + W.getD i 0) % 4294967296) 16) := by show _ = _; rw [HWD.out]; rfl
              have hbV := stepB hb1 hN.2
              have hcv3 : ∀ j, j < 16 → wr.cell? ⟨gv, j, none⟩ = some (.int .u64 (((qDbl W 10).getD j 0 : Nat) : Int)) := fun j hj => by
                have := (hN.place (j := j) (by rw [nI_length, HV.out.1]; exact hj)).2.2.1
                rw [nI_get] at this
                exact this
              have hcw3 : ∀ j, j < 16 → wr.cell? ⟨gw, ow + j, none⟩ = some (.int .u64 ((W.getD j 0 : Nat) : Int)) := fun j hj => by
                have := cellK0 (hcellw j hj) hN.2
                rw [nI_get] at this
                exact this
              have HCV : Hid _ := hcv3
              have HCW : Hid _ := hcw3
              generalize qDbl W 10 = V at HV HF HCV
              clear hN hcv3 hcw3 hcellw
              rename World => wO
              have hO : New 5 wO (.slice none 0 0) (wB (fun i => (V.getD i 0 + W.getD i 0) % 4294967296) 0) wO := New.start wO
              go_wp2
              go_loopw [17, 18] (fun v iv wx => ∃ i : Nat, i ≤ 16 ∧ iv = .int .i64 (i : Int) ∧ New 5 wO v (wB (fun i => (V.getD i 0 + W.getD i 0) % 4294967296) i) wx) (fun _ iv _ => 16 - (intOf iv).toNat)
              case atStart => exact ⟨0, by omega, rfl, hO⟩
              case round =>
                obtain ⟨i, hi, rfl, hN⟩ := hrel
                clear hO
                by_cases hlt : i < 16
                · have hd : decide ((i : Int) < 16) = true := decide_eq_true (by omega)
                  have hiI : (i : Int) < 16 := by omega
                  have cv1 := HCV.out i hlt
                  have cw1 := HCW.out i hlt
                  have b1 := HV.out.get i
                  have b2 := HW.out.get i
                  obtain ⟨z, hz⟩ : ∃ z : Nat, z = (V.getD i 0 + W.getD i 0) % 4294967296 := ⟨_, rfl⟩
                  have HNx : Hid (wB (fun i => (V.getD i 0 + W.getD i 0) % 4294967296) i ++ (List.range 4).map (stB z) = wB (fun i => (V.getD i 0 + W.getD i 0) % 4294967296) (i + 1)) := by
                    show _ = _
                    rw [hz]
                    rfl
                  have HLn : Hid ((wB (fun i => (V.getD i 0 + W.getD i 0) % 4294967296) i).length ≤ 100) := by
                    show _ ≤ _
                    rw [wB_length]
                    omega
                  generalize wB (fun i => (V.getD i 0 + W.getD i 0) % 4294967296) i = L0 at hN HNx HLn
                  obtain ⟨L1, hL1⟩ : ∃ L : List UInt8, L = wB (fun i => (V.getD i 0 + W.getD i 0) % 4294967296) (i + 1) := ⟨_, rfl⟩
                  rw [← hL1] at HNx
                  have HL1 : Hid _ := hL1
                  clear hL1
                  generalize V.getD i 0 = p at cv1 b1 hz
                  generalize W.getD i 0 = q at cw1 b2 hz
                  obtain ⟨s1, hs1⟩ : ∃ s : Nat, s = p + q := ⟨_, rfl⟩
                  have e1 : IntKind.u64.wrap ((p : Int) + (q : Int)) = (s1 : Int) := by rw [IntKind.wrap_u64]; omega
                  have e2 : ((s1 : Nat) : Int).tmod 4294967296 = (z : Int) := by rw [Int.tmod_eq_emod_of_nonneg (by omega)]; omega
                  have e3 : IntKind.u64.wrap (z : Int) = (z : Int) := by rw [IntKind.wrap_u64]; omega
                  have hzl : z < 18446744073709551616 := by omega
                  obtain ⟨zs, hzs⟩ : ∃ zs : List UInt8, zs = (List.range 4).map (stB z) := ⟨_, rfl⟩
                  have hzl4 : zs.length = 4 := by rw [hzs]; simp
                  rw [← hzs] at HNx
                  have HZS : Hid _ := hzs
                  have HZ4 : Hid _ := hzl4
                  clear hs1 hz hzs hzl4
                  go_wp2_with fail
                  refine wpB_begin hN.2 (by kernel_rfl) ?_
                  refine bU_ (Below.drew hN.2) 0 rfl ⟨_, by intro W hW; go_simp <;> with_reducible rfl, ?_⟩
                  try simp only [Act.put, pA_, pB_, pC_]
                  refine bU_ (Below.drew hN.2) 1 rfl ⟨_, by intro W hW; go_simp <;> with_reducible rfl, ?_⟩
                  try simp only [Act.put, pA_, pB_, pC_]
                  refine bU_ (Below.drew hN.2) 2 rfl ⟨_, by intro W hW; go_simp <;> with_reducible rfl, ?_⟩
                  try simp only [Act.put, pA_, pB_, pC_]
                  refine bU_ (Below.drew hN.2) 3 rfl ⟨_, by intro W hW; go_simp <;> with_reducible rfl, ?_⟩
                  try simp only [Act.put, pA_, pB_, pC_]
                  refine bU_ (Below.drew hN.2) 4 rfl ⟨_, by intro W hW; have hcW := cellK0 cv1 hW; go_simp <;> with_reducible rfl, ?_⟩
                  try simp only [Act.put, pA_, pB_, pC_]
                  refine bU_ (Below.drew hN.2) 5 rfl ⟨_, by intro W hW; go_simp <;> with_reducible rfl, ?_⟩
                  try simp only [Act.put, pA_, pB_, pC_]
                  refine bU_ (Below.drew hN.2) 6 rfl ⟨_, by intro W hW; go_simp <;> with_reducible rfl, ?_⟩
                  try simp only [Act.put, pA_, pB_, pC_]
                  refine bU_ (Below.drew hN.2) 7 rfl ⟨_, by intro W hW; go_simp <;> with_reducible rfl, ?_⟩
                  try simp only [Act.put, pA_, pB_, pC_]
                  refine bU_ (Below.drew hN.2) 8 rfl ⟨_, by intro W hW; have hcW := cellK0 cw1 hW; go_simp <;> with_reducible rfl, ?_⟩
                  try simp only [Act.put, pA_, pB_, pC_]
                  refine bU_ (Below.drew hN.2) 9 rfl ⟨_, by intro W hW; go_simp <;> with_reducible rfl, ?_⟩
                  try simp only [Act.put, pA_, pB_, pC_]
                  refine bU_ (Below.drew hN.2) 10 rfl ⟨_, by intro W hW; go_simp <;> with_reducible rfl, ?_⟩
                  try simp only [Act.put, pA_, pB_, pC_]
                  refine bD_ 11 fun K hK => ?_
                  go_simp
                  refine (refstore_k z hzl 4 4 (by omega) (.inr (.inl ⟨by omega, by omega, rfl⟩)) _).mono ?_
                  rintro e w5 ⟨v5, rfl, hN5⟩
                  have hR5 := hN5.rd
                  rw [← HZS.out] at hR5
                  have hN6 := hN.drew.kept hN5.2
                  refine hK.out _ _ hN6.2 ?_
                  clear hK K
                  try simp only [Act.put, pA_, pB_, pC_]
                  refine bD_ 12 fun K hK => ?_
                  refine wp_append_new (w := wO) _ _ 40 (by rfl) 5 Tryd.underlying40 infoU8 _ _ (by rfl) hN6 _ _ (by rfl) hR5 (by have := HLn.out; rw [HZ4.out]; omega) ?_
                  intro v7 w7 hN7 _
                  rw [HNx.out] at hN7
                  refine hK.out _ _ hN7.2 ?_
                  clear hK K
                  try simp only [Act.put, pA_, pB_, pC_]
                  refine bU_ (hN7.2) 13 rfl ⟨_, by intro W hW; go_simp <;> with_reducible rfl, ?_⟩
                  try simp only [Act.put, pA_, pB_, pC_]
                  refine wpB_done (by kernel_rfl) ?_
                  rw [HL1.out] at hN7
                  clear hN hN5 hN6 hR5 cv1 cw1
                  go_wp2
                  go_roundw
                  case rel => exact ⟨i + 1, by omega, by go_num, hN7⟩
                  case measure => simp [intOf] <;> omega
                · have hie : i = 16 := by omega
                  have hd : decide ((i : Int) < 16) = false := decide_eq_false (by omega)
                  have hiI : (16 : Int) ≤ (i : Int) := by omega
                  rw [hie, ← HF.out] at hN
                  clear hie
                  go_wp2
                  go_ret
                  exact ⟨_, rfl, hN.from hbV⟩
end Go.Proofs.YtliiofjcghdjoaaDoor
