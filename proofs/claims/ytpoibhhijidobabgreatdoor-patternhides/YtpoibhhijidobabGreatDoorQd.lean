/- What functions of the program, or of the reference, answer: contracts; several texts in one. -/
import Derived.Test.YtpoibhhijidobabGreatDoorQc
import Derived.Test.YtpoibhhijidobabGreatDoorQa
import Derived.Deep.DeepCutAuto

/- The patterns that are given: contracts of package pattern, last part. -/
namespace Go.Proofs.YtpoibhhijidobabGreatDoor
open Go.ChangeShapes Go.WideShapes Go.ChangeAt Go.RowKit
set_option linter.unusedSimpArgs false
set_option linter.unusedVariables false
theorem build_gv1 (a b : ByteArray) (w : World) : (Instr.build 87 #[(0, .string a), (1, .string b)]).run Tryz.prog w = .ok (.agg #[.string a, .string b]) w := by kernel_rfl
theorem build_gv6 (a0 b0 a1 b1 a2 b2 a3 b3 a4 b4 a5 b5 : ByteArray) (w : World) : (Instr.build 88 #[(0, .agg #[.string a0, .string b0]), (1, .agg #[.string a1, .string b1]), (2, .agg #[.string a2, .string b2]), (3, .agg #[.string a3, .string b3]), (4, .agg #[.string a4, .string b4]), (5, .agg #[.string a5, .string b5])]).run Tryz.prog w = .ok (.agg #[.string a0, .string b0, .string a1, .string b1, .string a2, .string b2, .string a3, .string b3, .string a4, .string b4, .string a5, .string b5]) w := by kernel_rfl
theorem alloc_gv6 (w : World) : (Instr.alloc 88 true (.tuple #[])).run Tryz.prog w = .ok (.pointer (some ⟨w.heap.size, 0, none⟩)) (w.alloc (.cells #[.string ⟨#[]⟩, .string ⟨#[]⟩, .string ⟨#[]⟩, .string ⟨#[]⟩, .string ⟨#[]⟩, .string ⟨#[]⟩, .string ⟨#[]⟩, .string ⟨#[]⟩, .string ⟨#[]⟩, .string ⟨#[]⟩, .string ⟨#[]⟩, .string ⟨#[]⟩] 88)) := by kernel_rfl
theorem alloc_gv1 (w : World) : (Instr.alloc 87 true (.tuple #[])).run Tryz.prog w = .ok (.pointer (some ⟨w.heap.size, 0, none⟩)) (w.alloc (.cells #[.string ⟨#[]⟩, .string ⟨#[]⟩] 87)) := by kernel_rfl
theorem info_gv6 : (Tryz.prog.info? 88).map (·.size) = some 12 := by kernel_rfl
theorem info_gv1 : (Tryz.prog.info? 87).map (·.size) = some 2 := by kernel_rfl
theorem one_gv6 (a0 b0 a1 b1 a2 b2 a3 b3 a4 b4 a5 b5 : ByteArray) : ([.string a0, .string b0, .string a1, .string b1, .string a2, .string b2, .string a3, .string b3, .string a4, .string b4, .string a5, .string b5] : List Value).toArray.all (·.oneCell') = true := all_oneCell_toArray (by intro u hu; simp only [List.mem_cons, List.mem_nil_iff, or_false] at hu; rcases hu with rfl | rfl | rfl | rfl | rfl | rfl | rfl | rfl | rfl | rfl | rfl | rfl <;> rfl)
theorem one_gv1 (a b : ByteArray) : ([.string a, .string b] : List Value).toArray.all (·.oneCell') = true := all_oneCell_toArray (by intro u hu; simp only [List.mem_cons, List.mem_nil_iff, or_false] at hu; rcases hu with rfl | rfl <;> rfl)
theorem idx_gv0 (a0 b0 a1 b1 a2 b2 a3 b3 a4 b4 a5 b5 : ByteArray) (w : World) : (Instr.index 88 (.agg #[.string a0, .string b0, .string a1, .string b1, .string a2, .string b2, .string a3, .string b3, .string a4, .string b4, .string a5, .string b5]) (.int .i64 0)).run Tryz.prog w = .ok (.agg #[.string a0, .string b0]) w := by kernel_rfl
theorem idx_gv1 (a0 b0 a1 b1 a2 b2 a3 b3 a4 b4 a5 b5 : ByteArray) (w : World) : (Instr.index 88 (.agg #[.string a0, .string b0, .string a1, .string b1, .string a2, .string b2, .string a3, .string b3, .string a4, .string b4, .string a5, .string b5]) (.int .i64 1)).run Tryz.prog w = .ok (.agg #[.string a1, .string b1]) w := by kernel_rfl
theorem idx_gv2 (a0 b0 a1 b1 a2 b2 a3 b3 a4 b4 a5 b5 : ByteArray) (w : World) : (Instr.index 88 (.agg #[.string a0, .string b0, .string a1, .string b1, .string a2, .string b2, .string a3, .string b3, .string a4, .string b4, .string a5, .string b5]) (.int .i64 2)).run Tryz.prog w = .ok (.agg #[.string a2, .string b2]) w := by kernel_rfl
theorem idx_gv3 (a0 b0 a1 b1 a2 b2 a3 b3 a4 b4 a5 b5 : ByteArray) (w : World) : (Instr.index 88 (.agg #[.string a0, .string b0, .string a1, .string b1, .string a2, .string b2, .string a3, .string b3, .string a4, .string b4, .string a5, .string b5]) (.int .i64 3)).run Tryz.prog w = .ok (.agg #[.string a3, .string b3]) w := by kernel_rfl
theorem idx_gv4 (a0 b0 a1 b1 a2 b2 a3 b3 a4 b4 a5 b5 : ByteArray) (w : World) : (Instr.index 88 (.agg #[.string a0, .string b0, .string a1, .string b1, .string a2, .string b2, .string a3, .string b3, .string a4, .string b4, .string a5, .string b5]) (.int .i64 4)).run Tryz.prog w = .ok (.agg #[.string a4, .string b4]) w := by kernel_rfl
theorem idx_gv5 (a0 b0 a1 b1 a2 b2 a3 b3 a4 b4 a5 b5 : ByteArray) (w : World) : (Instr.index 88 (.agg #[.string a0, .string b0, .string a1, .string b1, .string a2, .string b2, .string a3, .string b3, .string a4, .string b4, .string a5, .string b5]) (.int .i64 5)).run Tryz.prog w = .ok (.agg #[.string a5, .string b5]) w := by kernel_rfl
/-- Names and texts, laid one after another. -/
def gvA : List Value := [.string ⟨gvN0.toArray⟩, .string ⟨gvT0.toArray⟩, .string ⟨gvN1.toArray⟩, .string ⟨gvT1.toArray⟩, .string ⟨gvN2.toArray⟩, .string ⟨gvT2.toArray⟩, .string ⟨gvN3.toArray⟩, .string ⟨gvT3.toArray⟩, .string ⟨gvN4.toArray⟩, .string ⟨gvT4.toArray⟩, .string ⟨gvN5.toArray⟩, .string ⟨gvT5.toArray⟩]
set_option maxRecDepth 100000 in
set_option maxHeartbeats 4000000 in
theorem allGiven_any (w : World) : Calls Tryz.prog 44 #[] w fun e w' => e = .returned (.agg gvA.toArray) ∧ Below w.heap.size w w' := by
  have b1 := fun a b w => build_gv1 a b w
  have b6 := fun a0 b0 a1 b1 a2 b2 a3 b3 a4 b4 a5 b5 w => build_gv6 a0 b0 a1 b1 a2 b2 a3 b3 a4 b4 a5 b5 w
  go_enter Tryz.func44, Tryz.ntmps44
  go_wp2_with (refine wpList_alloc_blk rfl 88 rfl [.string ⟨#[]⟩, .string ⟨#[]⟩, .string ⟨#[]⟩, .string ⟨#[]⟩, .string ⟨#[]⟩, .string ⟨#[]⟩, .string ⟨#[]⟩, .string ⟨#[]⟩, .string ⟨#[]⟩, .string ⟨#[]⟩, .string ⟨#[]⟩, .string ⟨#[]⟩] (alloc_gv6 _) ?_)
  intro w1 r1 c1 s1
  go_wp2_with (refine wpList_store_part rfl 88 _ _ rfl rfl gvA rfl [] [.string ⟨#[]⟩, .string ⟨#[]⟩, .string ⟨#[]⟩, .string ⟨#[]⟩, .string ⟨#[]⟩, .string ⟨#[]⟩, .string ⟨#[]⟩, .string ⟨#[]⟩, .string ⟨#[]⟩, .string ⟨#[]⟩, .string ⟨#[]⟩, .string ⟨#[]⟩] [] gvA r1 rfl rfl rfl rfl info_gv6 (one_gv6 ..) ?_)
  intro w2 r2 h2
  have c2 := h2.below _ _ (Nat.le_refl _) c1
  clear r1 c1 s1 h2
  go_wp2
  refine bodyPost_blk rfl rfl rfl r2 Tryz.underlying88 rfl info_gv6 ?_
  exact ⟨rfl, c2⟩

/-- The i-th of the given: its name and its text. -/
theorem gv_idx (i : Nat) (hi : i < 6) : ∀ w : World, (Instr.index 88 (.agg gvA.toArray) (.int .i64 (i : Int))).run Tryz.prog w = .ok (.agg #[.string ⟨((gvL.getD i []).getD 0 []).toArray⟩, .string ⟨((gvL.getD i []).getD 1 []).toArray⟩]) w := by
  match i, hi with
  | 0, _ => exact fun w => idx_gv0 ..
  | 1, _ => exact fun w => idx_gv1 ..
  | 2, _ => exact fun w => idx_gv2 ..
  | 3, _ => exact fun w => idx_gv3 ..
  | 4, _ => exact fun w => idx_gv4 ..
  | 5, _ => exact fun w => idx_gv5 ..
/-- The text of a name, if it is one of the given. -/
def gvG (x : List UInt8) : List (List (List UInt8)) → List UInt8 × Bool
  | [] => ([], false)
  | g :: r => if g.getD 0 [] = x then (g.getD 1 [], true) else gvG x r
theorem gvG_hit (x : List UInt8) : ∀ (l : List (List (List UInt8))) (i : Nat), i < l.length → (∀ k, k < i → (l.getD k []).getD 0 [] ≠ x) → (l.getD i []).getD 0 [] = x → gvG x l = ((l.getD i []).getD 1 [], true)
  | [], i, h, _, _ => absurd h (by simp)
  | g :: r, 0, _, _, e => if_pos e
  | g :: r, i + 1, h, hn, e => by
    have h0 : ¬ g.getD 0 [] = x := hn 0 (by omega)
    show (if g.getD 0 [] = x then _ else _) = _
    rw [if_neg h0]
    exact gvG_hit x r i (by simpa using h) (fun k hk => hn (k + 1) (by omega)) e
theorem gvG_miss (x : List UInt8) : ∀ (l : List (List (List UInt8))), (∀ k, k < l.length → (l.getD k []).getD 0 [] ≠ x) → gvG x l = ([], false)
  | [], _ => rfl
  | g :: r, hn => by
    have h0 : ¬ g.getD 0 [] = x := hn 0 (by simp)
    show (if g.getD 0 [] = x then _ else _) = _
    rw [if_neg h0]
    exact gvG_miss x r (fun k hk => hn (k + 1) (by simpa using hk))

set_option maxRecDepth 100000 in
set_option maxHeartbeats 8000000 in
theorem given_any (x : List UInt8) (w : World) : Calls Tryz.prog 17 #[.string ⟨x.toArray⟩] w fun e w' => e = .returned (.tuple #[.string ⟨(gvG x gvL).1.toArray⟩, .bool (gvG x gvL).2]) ∧ Below w.heap.size w w' := by
  obtain ⟨XB, hXB⟩ : ∃ B : ByteArray, B = ⟨x.toArray⟩ := ⟨_, rfl⟩
  have HXl : Hid (XB.toList = x) := by show _ = _; rw [hXB]; exact str_toList _
  rw [← hXB]
  clear hXB
  go_enter Tryz.func17, Tryz.ntmps17
  go_wp2_with fail
  refine (allGiven_any _).mono ?_
  rintro e w1 ⟨rfl, b1⟩
  have HI : Hid (∀ i : Nat, i < 6 → ∀ w : World, (Instr.index 88 (.agg gvA.toArray) (.int .i64 (i : Int))).run Tryz.prog w = .ok (.agg #[.string ⟨((gvL.getD i []).getD 0 []).toArray⟩, .string ⟨((gvL.getD i []).getD 1 []).toArray⟩]) w) := gv_idx
  obtain ⟨GA, hGA⟩ : ∃ A : Array Value, A = gvA.toArray := ⟨_, rfl⟩
  rw [← hGA] at HI ⊢
  clear hGA
  go_wp2
  go_loopw [7] (fun iv wx => ∃ i : Nat, i ≤ 6 ∧ iv = .int .i64 (i : Int) ∧ Below w.heap.size w wx ∧ Hid (∀ k, k < i → (gvL.getD k []).getD 0 [] ≠ x)) (fun iv _ => 6 - (intOf iv).toNat)
  case atStart => exact ⟨0, by omega, rfl, b1, (by show ∀ k, _; intro k h2; omega)⟩
  case round =>
    obtain ⟨i, hi, rfl, hb, HN⟩ := hrel
    clear b1
    by_cases hlt : i < 6
    · have hd : decide ((i : Int) < 6) = true := decide_eq_true (by omega)
      have hiI : (i : Int) < 6 := by omega
      have ix := HI.out i hlt
      obtain ⟨NB, hNB⟩ : ∃ B : ByteArray, B = ⟨((gvL.getD i []).getD 0 []).toArray⟩ := ⟨_, rfl⟩
      obtain ⟨TB, hTB⟩ : ∃ B : ByteArray, B = ⟨((gvL.getD i []).getD 1 []).toArray⟩ := ⟨_, rfl⟩
      rw [← hNB, ← hTB] at ix
      have HNl : Hid (NB.toList = (gvL.getD i []).getD 0 []) := by show _ = _; rw [hNB]; exact str_toList _
      have HTB : Hid (TB = ⟨((gvL.getD i []).getD 1 []).toArray⟩) := hTB
      clear hNB hTB
      go_wp2_with (refine wpList_alloc_blk rfl 87 rfl [.string ⟨#[]⟩, .string ⟨#[]⟩] (alloc_gv1 _) ?_)
      intro w2 r2 b2 s2
      go_wp2_with (refine wpList_store_part rfl 87 _ _ rfl rfl [.string NB, .string TB] rfl [] [.string ⟨#[]⟩, .string ⟨#[]⟩] [] [.string NB, .string TB] r2 rfl rfl rfl rfl info_gv1 (one_gv1 NB TB) ?_)
      intro w3 r3 hw3
      have c0 : w3.cell? ⟨wr.heap.size, 0, none⟩ = some (.string NB) := r3.cell 0
      have c1 : w3.cell? ⟨wr.heap.size, 1, none⟩ = some (.string TB) := r3.cell 1
      have b3 := hw3.below _ _ hb.size (stepB hb b2)
      clear r2 b2 s2 hw3 r3 hb ix
      by_cases he : (gvL.getD i []).getD 0 [] = x
      · have q1 : (NB.toList == XB.toList) = true := by rw [HNl.out, HXl.out, he]; simp
        have q2 : NB.toList = XB.toList := by rw [HNl.out, HXl.out, he]
        have HF : Hid (gvG x gvL = ((gvL.getD i []).getD 1 [], true)) := gvG_hit x gvL i hlt HN.out he
        clear he
        go_wp2
        go_ret2
        exact ⟨by rw [HF.out, HTB.out]; rfl, b3⟩
      · have q1 : (NB.toList == XB.toList) = false := by rw [HNl.out, HXl.out]; simpa using he
        have q2 : ¬ NB.toList = XB.toList := by rw [HNl.out, HXl.out]; exact he
        have HN2 : Hid (∀ k, k < i + 1 → (gvL.getD k []).getD 0 [] ≠ x) := by
          show ∀ k, _
          intro k h2
          rcases Nat.lt_or_ge k i with h | h
          · exact HN.out k h
          · rw [show k = i by omega]; exact he
        clear he
        go_wp2
        go_roundw
        case rel => exact ⟨i + 1, by omega, by go_num, b3, HN2⟩
        case measure => simp [intOf] <;> omega
    · have hd : decide ((i : Int) < 6) = false := decide_eq_false (by omega)
      have hiI : (6 : Int) ≤ (i : Int) := by omega
      have HF : Hid (gvG x gvL = ([], false)) := gvG_miss x gvL fun k h1 => HN.out k (by have : k < 6 := h1; omega)
      go_wp2
      go_ret2
      exact ⟨by rw [HF.out]; rfl, hb⟩

/-- The names of the given. -/
def gvS : List (List UInt8) := [gvN0, gvN1, gvN2, gvN3, gvN4, gvN5]
theorem gvS_next (i : Nat) (h : i < 6) : gvS.take i ++ [(gvL.getD i []).getD 0 []] = gvS.take (i + 1) := by
  match i, h with
  | 0, _ => rfl
  | 1, _ => rfl
  | 2, _ => rfl
  | 3, _ => rfl
  | 4, _ => rfl
  | 5, _ => rfl
set_option maxRecDepth 100000 in
set_option maxHeartbeats 8000000 in
theorem names_any (w : World) : Calls Tryz.prog 19 #[] w fun e w' => ∃ v, e = .returned v ∧ OwnG w [Rw.st v gvS] w' := by
  obtain ⟨ti, hti, hz0, hz1, hz2⟩ := info_parts infoStr
  go_enter Tryz.func19, Tryz.ntmps19
  go_wp2_with fail
  refine (allGiven_any _).mono ?_
  rintro e w1 ⟨rfl, b1⟩
  have HI : Hid (∀ i : Nat, i < 6 → ∀ w : World, (Instr.index 88 (.agg gvA.toArray) (.int .i64 (i : Int))).run Tryz.prog w = .ok (.agg #[.string ⟨((gvL.getD i []).getD 0 []).toArray⟩, .string ⟨((gvL.getD i []).getD 1 []).toArray⟩]) w) := gv_idx
  obtain ⟨GA, hGA⟩ : ∃ A : Array Value, A = gvA.toArray := ⟨_, rfl⟩
  rw [← hGA] at HI ⊢
  clear hGA
  have HB1 : Hid (Below w.heap.size w w1) := b1
  have hO0 : OwnG w1 [Rw.st (.slice none 0 0) (gvS.take 0)] w1 := (OwnG.start w1).nil 9 1
  clear b1
  go_wp2
  go_loopw [1, 5] (fun ov iv wx => ∃ i : Nat, i ≤ 6 ∧ iv = .int .i64 (i : Int) ∧ OwnG w1 [Rw.st ov (gvS.take i)] wx) (fun _ iv _ => 6 - (intOf iv).toNat)
  case atStart => exact ⟨0, by omega, rfl, hO0⟩
  case round =>
    obtain ⟨i, hi, rfl, hO⟩ := hrel
    clear hO0
    by_cases hlt : i < 6
    · have hd : decide ((i : Int) < 6) = true := decide_eq_true (by omega)
      have hiI : (i : Int) < 6 := by omega
      have ix := HI.out i hlt
      obtain ⟨NB, hNB⟩ : ∃ B : ByteArray, B = ⟨((gvL.getD i []).getD 0 []).toArray⟩ := ⟨_, rfl⟩
      obtain ⟨TB, hTB⟩ : ∃ B : ByteArray, B = ⟨((gvL.getD i []).getD 1 []).toArray⟩ := ⟨_, rfl⟩
      rw [← hNB, ← hTB] at ix
      obtain ⟨LL, hLL⟩ : ∃ L : List (List UInt8), L = gvS.take i := ⟨_, rfl⟩
      rw [← hLL] at hO
      have hLn : LL.length = i := by rw [hLL, List.length_take]; show min i 6 = i; omega
      have HN : Hid (stC LL ++ [.string NB] = stC (gvS.take (i + 1))) := by show _ = _; rw [hNB, ← gvS_next i hlt, stC_next, hLL]
      have HL1 : Hid (i + 1 = (gvS.take (i + 1)).length) := by show _ = _; rw [List.length_take]; show _ = min _ 6; omega
      clear hNB hTB hLL
      go_wp2_with (refine wpList_alloc_blk rfl 87 rfl [.string ⟨#[]⟩, .string ⟨#[]⟩] (alloc_gv1 _) ?_)
      intro w2 r2 b2 s2
      have HOw : Hid (∀ q ∈ ([Rw.st u1 LL] : List Rw), ∀ b, q.v.ownBlock = some b → b ≠ wr.heap.size) := by
        show ∀ q ∈ _, _
        intro q hq b hb e
        have := hO.lt q hq b hb
        omega
      go_wp2_with (refine wpList_store_part rfl 87 _ _ rfl rfl [.string NB, .string TB] rfl [] [.string ⟨#[]⟩, .string ⟨#[]⟩] [] [.string NB, .string TB] r2 rfl rfl rfl rfl info_gv1 (one_gv1 NB TB) ?_)
      intro w3 r3 hw3
      have c0 : w3.cell? ⟨wr.heap.size, 0, none⟩ = some (.string NB) := r3.cell 0
      have hO3 := (hO.kept b2).wrote hw3 hO.below.size HOw.out
      clear r2 b2 s2 hw3 r3 hO ix HOw
      go_wp2_with (at_builtin; go_must (refine wpList_append_E rfl _ _ 54 rfl 9 ti _ 1 16 Tryz.underlying54 hti hz0 hz1 hz2 rfl (by decide) _ LL.length (stC LL) rfl (hO3.kept (growB _)) ⟨w3.heap.size, 0, none⟩ 1 1 [.string NB] rfl rfl (news1 _ rfl) (by intro u hu; simp at hu; subst hu; rfl) (by unfold maxLen; omega) (by omega) ?_))
      intro v6 w6 hO6 hC6
      rw [HN.out] at hO6
      have hO7 : OwnG w1 [Rw.st v6 (gvS.take (i + 1))] w6 := by
        show OwnG w1 [⟨9, 1, v6, (gvS.take (i + 1)).length, _⟩] w6
        rw [← HL1.out]
        exact hO6
      clear hO3 hC6 c0 hO6
      go_wp2
      go_roundw
      case rel => exact ⟨i + 1, by omega, by go_num, hO7⟩
      case measure => simp [intOf] <;> omega
    · have hd : decide ((i : Int) < 6) = false := decide_eq_false (by omega)
      have hiI : (6 : Int) ≤ (i : Int) := by omega
      have HF : Hid (OwnG w [Rw.st u1 gvS] wr) := by
        have e : i = 6 := by omega
        subst e
        exact hO.from HB1.out
      clear hO
      go_wp2
      go_ret
      exact ⟨_, rfl, HF.out⟩
end Go.Proofs.YtpoibhhijidobabGreatDoor

/- That a text is read as the document reads it: plain mathematics. -/
namespace Go.Proofs.YtpoibhhijidobabGreatDoor
set_option linter.unusedSimpArgs false
set_option linter.unusedVariables false

/-! ### Names -/
theorem tfT_tf : ∀ s : List UInt8, tfT (tfT s) = tfT s
  | [] => rfl
  | x :: t => by
    have e : tfT (x :: t) = if x = 32 then tfT t else x :: t := rfl
    rw [e]
    by_cases h : x = 32
    · rw [if_pos h]; exact tfT_tf t
    · rw [if_neg h, e, if_neg h]
theorem tf_tm (y : List UInt8) : tfT (tmT y) = tmT y := by
  unfold tmT
  rw [tf_te, tfT_tf]
theorem tf_take {x : List UInt8} (h : tfT x = x) (k : Nat) : tfT (x.take k) = x.take k := by
  cases x with
  | nil => simp [tfT]
  | cons c t =>
    cases k with
    | zero => rfl
    | succ k =>
      have e : tfT (c :: t) = if c = 32 then tfT t else c :: t := rfl
      have hc : c ≠ 32 := by
        intro hc
        rw [e, if_pos hc] at h
        have := tfT_len t
        rw [h] at this
        simp at this
        omega
      show (if c = 32 then tfT (t.take k) else c :: t.take k) = _
      rw [if_neg hc]
      rfl
theorem ln_tf {s x : List UInt8} (h : x ∈ lnS s) : tfT x = x := by
  unfold lnS at h
  obtain ⟨h1, -⟩ := List.mem_filter.1 h
  obtain ⟨y, -, rfl⟩ := List.mem_map.1 h1
  exact tf_tm y
theorem nmE_eq {x : List UInt8} (h : x ≠ []) : nmE x = decide (x.getD (x.length - 1) 0 = 58) := by
  unfold nmE
  rw [Bool.eq_iff_iff, List.isSuffixOf_iff_suffix, decide_eq_true_eq]
  obtain ⟨t, c, rfl⟩ : ∃ t c, x = t ++ [c] := ⟨x.dropLast, x.getLast h, (List.dropLast_concat_getLast h).symm⟩
  have e : (t ++ [c]).getD ((t ++ [c]).length - 1) 0 = c := by simp
  rw [e]
  constructor
  · rintro ⟨u, hu⟩
    have := List.append_inj_right' hu (by simp)
    simpa using this.symm
  · intro hc
    subst hc
    exact ⟨t, rfl⟩
/-! ### Known lines -/
theorem mem_tf (y : UInt8) : ∀ s : List UInt8, y ∈ s → y = 32 ∨ y ∈ tfT s
  | [], h => by cases h
  | x :: t, h => by
    have e : tfT (x :: t) = if x = 32 then tfT t else x :: t := rfl
    rw [e]
    by_cases hx : x = 32
    · rw [if_pos hx]
      rcases List.mem_cons.1 h with rfl | h
      · exact .inl hx
      · exact mem_tf y t h
    · rw [if_neg hx]
      exact .inr h
theorem mem_tm (y : UInt8) (s : List UInt8) (h : y ∈ s) : y = 32 ∨ y ∈ tmT s := by
  rcases mem_tf y s h with h | h
  · exact .inl h
  · unfold tmT teT
    rcases mem_tf y (tfT s).reverse (List.mem_reverse.2 h) with h | h
    · exact .inl h
    · exact .inr (List.mem_reverse.2 h)
theorem spl_one (c : UInt8) : ∀ s : List UInt8, (splL c s).length = 1 → splL c s = [s]
  | [], _ => rfl
  | x :: t, h => by
    by_cases hx : x = c
    · have e0 : splL c (x :: t) = if x = c then [] :: splL c t else (match splL c t with | [] => [[x]] | p :: ps => (x :: p) :: ps) := rfl
      have e : splL c (x :: t) = [] :: splL c t := by rw [e0, if_pos hx]
      rw [e] at h
      simp at h
      exact absurd h (splL_ne c t)
    · cases hs : splL c t with
      | nil => exact absurd hs (splL_ne c t)
      | cons p ps =>
        have e := splL_cons c x hx t p ps hs
        rw [e] at h ⊢
        have hps : ps = [] := by simpa using h
        subst hps
        have ih := spl_one c t (by rw [hs]; rfl)
        rw [hs] at ih
        simp at ih
        rw [ih]
theorem tkN_hit (p : List UInt8) : ∀ m, tkN p m ≠ 0 → wdL.getD (tkN p m) [] = p
  | 0, h => absurd rfl h
  | k + 1, h => by
    unfold tkN at h ⊢
    split
    · rename_i hk; exact hk.2
    · rename_i hk
      rw [if_neg hk] at h
      exact tkN_hit p k h
theorem tok_two (p : List UInt8) : tokN p = 2 ↔ p = [115] := by
  constructor
  · intro h
    have := tkN_hit p 11 (by show tokN p ≠ 0; omega)
    rw [show tkN p 11 = 2 from h] at this
    exact this.symm
  · rintro rfl
    decide
/-- A line that says that a key is known. -/
theorem tl_iff (x : List UInt8) (b : Bool) : tlB b x = true ↔ (msgB x = true ∧ decide (x.getD 0 0 = 45) = b ∧ nIs (msgL x) = [2]) := by
  have hkey : ∀ s : List UInt8, ((splL 44 s).map fun p => tokN (tmT p)) = [2] ↔ tmT s = [115] := by
    intro s
    constructor
    · intro h
      have hl : (splL 44 s).length = 1 := by have := congrArg List.length h; simpa using this
      rw [spl_one 44 s hl] at h
      simp at h
      exact (tok_two _).1 h
    · intro h
      have : splL 44 s = [s] := splL_last 44 s fun y hy e => by
        subst e
        rcases mem_tm 44 s hy with h2 | h2
        · cases h2
        · rw [h] at h2
          simp at h2
      rw [this]
      simp [(tok_two _).2 h]
  have hn : ∀ l : List Nat, nIs l = [2] ↔ l = [2] := by
    intro l
    unfold nIs
    constructor
    · intro h
      match l, h with
      | [a], h => simp at h; have : a = 2 := by omega
                  rw [this]
    · rintro rfl; rfl
  unfold tlB
  rw [Bool.and_eq_true, decide_eq_true_eq, hn]
  show _ ↔ (msgB x = true ∧ decide (x.getD 0 0 = 45) = b ∧ ((splL 44 (x.drop 2)).map fun p => tokN (tmT p)) = [2])
  rw [hkey]
  constructor
  · rintro ⟨h1, h2⟩
    have hH : msgH x = true ∧ decide (x.getD 0 0 = 45) = b := by
      cases b with
      | true => exact msg_in h1
      | false => exact msg_re h1
    refine ⟨?_, hH.2, h2⟩
    unfold msgB
    rw [hH.1]
    have := (hkey (x.drop 2)).2 h2
    show (((splL 44 (x.drop 2)).map fun p => tokN (tmT p)).all fun n => n != 0) = true
    rw [this]
    rfl
  · rintro ⟨h1, h2, h3⟩
    refine ⟨?_, h3⟩
    by_cases e0 : ar0.isPrefixOf x = true
    · have := (msg_in e0).2
      rw [h2] at this
      rw [this]
      exact e0
    · by_cases e1 : ar1.isPrefixOf x = true
      · have := (msg_re e1).2
        rw [h2] at this
        rw [this]
        exact e1
      · rw [msg_no (Bool.eq_false_iff.2 e0) (Bool.eq_false_iff.2 e1)] at h1
        cases h1
theorem tl_both {x : List UInt8} (h1 : tlB true x = true) (h2 : tlB false x = true) : False := by
  have a := ((tl_iff x true).1 h1).2.1
  have b := ((tl_iff x false).1 h2).2.1
  rw [a] at b
  cases b
/-- What a known line makes of a pattern. -/
theorem ln_known (d : Int) (i : Nat) (hi : (i : Int) < d) (x : List UInt8) (p : Ptn) : lnP d i x p = if tlB true x then (if p.kr || p.ki then none else some ⟨p.name, true, p.kr, p.ms⟩) else if tlB false x then (if p.kr then none else some ⟨p.name, p.ki, true, p.ms⟩) else none := by
  unfold lnP stLn
  rw [if_neg (by omega), if_neg (show ¬ d < (i : Int) by omega)]
  by_cases h1 : tlB true x = true
  · obtain ⟨a, b, c⟩ := (tl_iff x true).1 h1
    rw [if_pos h1, if_neg (by rw [a]; simp), b, c]
    cases p.kr <;> cases p.ki <;> simp
  · rw [if_neg h1]
    by_cases h2 : tlB false x = true
    · obtain ⟨a, b, c⟩ := (tl_iff x false).1 h2
      rw [if_pos h2, if_neg (by rw [a]; simp), b, c]
      cases p.kr <;> simp
    · rw [if_neg h2]
      by_cases hm : msgB x = false
      · rw [if_pos hm]
      · have hm' : msgB x = true := by simpa using hm
        rw [if_neg hm, if_pos]
        by_cases hl : (nIs (msgL x)).length ≠ 1
        · exact .inl hl
        · right; left
          intro e
          have hl' : (nIs (msgL x)).length = 1 := by omega
          have : nIs (msgL x) = [2] := by
            match hq : nIs (msgL x), hl', e with
            | [a], _, e => simp at e; rw [e]
          cases hb : decide (x.getD 0 0 = 45) with
          | true => exact h1 ((tl_iff x true).2 ⟨hm', hb, this⟩)
          | false => exact h2 ((tl_iff x false).2 ⟨hm', hb, this⟩)
/-! ### The dots -/
theorem dt_ix (x : List UInt8) (R : List (List UInt8)) : ∀ c, c ≤ R.length → dtR (x :: R) c = if ixL dotT (R.drop (R.length - c)) = -1 then -1 else ixL dotT (R.drop (R.length - c)) + ((R.length - c : Nat) : Int) + 1
  | 0, _ => by
    rw [Nat.sub_zero, List.drop_length]
    rfl
  | c + 1, h => by
    have ih := dt_ix x R c (by omega)
    have hj : (x :: R).length - 1 - c = R.length - c := by simp
    rw [dtR_next (x :: R) c (R.length - c) hj.symm]
    have e1 : (x :: R).getD (R.length - c) [] = R.getD (R.length - (c + 1)) [] := by
      rw [show R.length - c = (R.length - (c + 1)) + 1 by omega]
      rfl
    have hlt : R.length - (c + 1) < R.length := by omega
    have e2 : R.drop (R.length - (c + 1)) = R.getD (R.length - (c + 1)) [] :: R.drop (R.length - c) := by
      rw [List.drop_eq_getElem_cons hlt, show R.length - (c + 1) + 1 = R.length - c by omega]
      simp [hlt]
    have hge := ixL_ge dotT (R.drop (R.length - c))
    rw [e1, e2]
    have eu : ∀ z zs, ixL dotT (z :: zs) = if z = dotT then 0 else if ixL dotT zs = -1 then -1 else ixL dotT zs + 1 := fun _ _ => rfl
    rw [eu]
    by_cases hd : R.getD (R.length - (c + 1)) [] = dotT
    · rw [if_pos hd, if_pos hd, if_neg (by decide)]
      omega
    · rw [if_neg hd, if_neg hd, ih]
      by_cases h1 : ixL dotT (R.drop (R.length - c)) = -1
      · rw [if_pos h1, if_pos h1, if_pos rfl]
      · rw [if_neg h1, if_neg h1, if_neg (by omega)]
        omega
theorem dt_all (x : List UInt8) (R : List (List UInt8)) : dtR (x :: R) R.length = if ixL dotT R = -1 then -1 else ixL dotT R + 1 := by
  have := dt_ix x R R.length (Nat.le_refl _)
  rw [Nat.sub_self, List.drop_zero] at this
  rw [this]
  simp
theorem ix_at (x : List UInt8) : ∀ (zs : List (List UInt8)) (k : Nat), ixL x zs = (k : Int) → zs.getD k [] = x
  | [], k, h => by have : (-1 : Int) = (k : Int) := h; omega
  | z :: zs, k, h => by
    have eu : ixL x (z :: zs) = if z = x then 0 else if ixL x zs = -1 then -1 else ixL x zs + 1 := rfl
    rw [eu] at h
    by_cases hz : z = x
    · rw [if_pos hz] at h
      have : k = 0 := by omega
      subst this
      exact hz
    · rw [if_neg hz] at h
      by_cases h1 : ixL x zs = -1
      · rw [if_pos h1] at h; omega
      · rw [if_neg h1] at h
        have hge := ixL_ge x zs
        cases k with
        | zero => omega
        | succ k => exact ix_at x zs k (by omega)
/-! ### Messages -/
theorem ln_msg (d : Int) (i : Nat) (hi : d < (i : Int)) (x : List UInt8) (p : Ptn) : lnP d i x p = if msgB x then some ⟨p.name, p.ki, p.kr, p.ms ++ [(decide (x.getD 0 0 = 45), nIs (msgL x))]⟩ else none := by
  unfold lnP stLn
  rw [if_neg (by omega)]
  cases h : msgB x with
  | false => rfl
  | true => rw [if_neg (by simp), if_pos hi]; rfl
theorem rn_msgs (d : Int) (l : List (List UInt8)) (p0 p : Ptn) (b : Nat) (h0 : rnP d l p0 b = some p) (hd : d ≤ (b : Int)) (ls : List (List UInt8)) (hl : ∀ j, j < ls.length → l.getD (b + j + 1) [] = ls.getD j []) :
    ∀ j, j ≤ ls.length → rnP d l p0 (b + j) = if (ls.take j).all msgB then some ⟨p.name, p.ki, p.kr, p.ms ++ mgL (ls.take j)⟩ else none
  | 0, _ => by
    rw [Nat.add_zero, h0]
    simp [mgL]
  | j + 1, hj => by
    have ih := rn_msgs d l p0 p b h0 hd ls hl j (by omega)
    show (rnP d l p0 (b + j)).bind (lnP d (b + j + 1) (l.getD (b + j + 1) [])) = _
    rw [ih, hl j (by omega), mgL_next ls j (by omega)]
    have e : (ls.take (j + 1)).all msgB = ((ls.take j).all msgB && msgB (ls.getD j [])) := by
      rw [List.take_add_one, List.getElem?_eq_getElem (by omega), List.all_append]
      have : j < ls.length := by omega
      simp [this]
    rw [e]
    cases h1 : (ls.take j).all msgB with
    | false => rfl
    | true =>
      show lnP d (b + j + 1) (ls.getD j []) _ = _
      rw [ln_msg d _ (by omega)]
      cases h2 : msgB (ls.getD j []) with
      | false => rfl
      | true => simp [List.append_assoc]
/-! ### All -/
theorem kf_nil : kfB [] = false := rfl
theorem kn_one (x : List UInt8) : kfB [x] = (tlB true x || tlB false x) ∧ kfI [x] 2 = tlB true x ∧ (kfB [x] = true → kfR [x] 2 = (!tlB true x)) := by
  have e1 : kfS true [x] = tlB true x := by unfold kfS; simp
  cases h1 : tlB true x with
  | true =>
    have e2 : kfT true [x] = [] := by unfold kfT; rw [e1, h1]; rfl
    refine ⟨?_, by show kfS true [x] = _; rw [e1, h1], fun _ => ?_⟩
    · unfold kfB
      show ((kfS true [x] || kfS false (kfT true [x])) && (kfT false (kfT true [x])).isEmpty) = _
      rw [e2, e1, h1]
      rfl
    · show kfS false (kfT true [x]) = _
      rw [e2]
      rfl
  | false =>
    have e2 : kfT true [x] = [x] := by unfold kfT; rw [e1, h1]; rfl
    have e3 : kfS false [x] = tlB false x := by unfold kfS; simp
    refine ⟨?_, by show kfS true [x] = _; rw [e1, h1], fun h => ?_⟩
    · unfold kfB
      show ((kfS true [x] || kfS false (kfT true [x])) && (kfT false (kfT true [x])).isEmpty) = _
      rw [e2, e1, h1, e3]
      cases h2 : tlB false x with
      | true =>
        have e4 : kfT false [x] = [] := by unfold kfT; rw [e3, h2]; rfl
        rw [e4]
        rfl
      | false => rfl
    · show kfS false (kfT true [x]) = _
      rw [e2, e3]
      have h' : ((kfS true [x] || kfS false (kfT true [x])) && (kfT false (kfT true [x])).isEmpty) = true := h
      rw [e2, e1, h1, e3] at h'
      cases h2 : tlB false x with
      | true => rfl
      | false => rw [h2] at h'; cases h'
theorem kn_two (x y : List UInt8) (r : List (List UInt8)) : kfB (x :: y :: r) = (tlB true x && tlB false y && r.isEmpty) ∧ (kfB (x :: y :: r) = true → kfI (x :: y :: r) 2 = true ∧ kfR (x :: y :: r) 2 = true) := by
  have e1 : ∀ (b : Bool) (z : List UInt8) (l : List (List UInt8)), kfS b (z :: l) = tlB b z := fun b z l => by unfold kfS; simp
  have main : kfB (x :: y :: r) = (tlB true x && tlB false y && r.isEmpty) := by
    unfold kfB
    show ((kfS true (x :: y :: r) || kfS false (kfT true (x :: y :: r))) && (kfT false (kfT true (x :: y :: r))).isEmpty) = _
    cases h1 : tlB true x with
    | true =>
      have e2 : kfT true (x :: y :: r) = y :: r := by unfold kfT; rw [e1, h1]; rfl
      rw [e2, e1, h1, e1]
      cases h2 : tlB false y with
      | true =>
        have e3 : kfT false (y :: r) = r := by unfold kfT; rw [e1, h2]; rfl
        rw [e3]
        rfl
      | false =>
        have e3 : kfT false (y :: r) = y :: r := by unfold kfT; rw [e1, h2]; rfl
        rw [e3]
        rfl
    | false =>
      have e2 : kfT true (x :: y :: r) = x :: y :: r := by unfold kfT; rw [e1, h1]; rfl
      rw [e2, e1, h1, e1]
      cases h2 : tlB false x with
      | true =>
        have e3 : kfT false (x :: y :: r) = y :: r := by unfold kfT; rw [e1, h2]; rfl
        rw [e3]
        rfl
      | false => rfl
  refine ⟨main, fun h => ?_⟩
  rw [main] at h
  simp only [Bool.and_eq_true] at h
  have e2 : kfT true (x :: y :: r) = y :: r := by unfold kfT; rw [e1, h.1.1]; rfl
  refine ⟨by show kfS true (x :: y :: r) = true; rw [e1]; exact h.1.1, ?_⟩
  show kfS false (kfT true (x :: y :: r)) = true
  rw [e2, e1]
  exact h.1.2
/-- The known lines. -/
theorem rn_known (d : Int) (l : List (List UInt8)) (nm : List UInt8) (K : List (List UInt8)) (hd : (K.length : Int) < d) (hl : ∀ j, j < K.length → l.getD (j + 1) [] = K.getD j []) (hK : K ≠ []) :
    rnP d l ⟨nm, false, false, []⟩ K.length = if kfB K then some ⟨nm, kfI K 2, kfR K 2, []⟩ else none := by
  match K, hK, hd, hl with
  | [x], _, hd, hl =>
    have e0 : l.getD 1 [] = x := hl 0 (by simp)
    show (some (⟨nm, false, false, []⟩ : Ptn)).bind (lnP d 1 (l.getD 1 [])) = _
    rw [e0]
    show lnP d 1 x ⟨nm, false, false, []⟩ = _
    rw [ln_known d 1 (by simpa using hd)]
    obtain ⟨k1, k2, k3⟩ := kn_one x
    rw [k2]
    cases h1 : tlB true x with
    | true =>
      have hB : kfB [x] = true := by rw [k1, h1]; rfl
      rw [if_pos rfl, if_pos hB, k3 hB, h1]
      rfl
    | false =>
      rw [if_neg (by simp)]
      cases h2 : tlB false x with
      | true =>
        have hB : kfB [x] = true := by rw [k1, h1, h2]; rfl
        rw [if_pos rfl, if_pos hB, k3 hB, h1]
        rfl
      | false =>
        have hB : kfB [x] = false := by rw [k1, h1, h2]; rfl
        rw [if_neg (by simp), if_neg (by rw [hB]; simp)]
  | x :: y :: r, _, hd, hl =>
    have e0 : l.getD 1 [] = x := hl 0 (by simp)
    have e1 : l.getD 2 [] = y := hl 1 (by simp)
    have hd2 : (r.length : Int) + 2 < d := by simpa [Int.add_assoc] using hd
    obtain ⟨k1, k2⟩ := kn_two x y r
    have s1 : rnP d l ⟨nm, false, false, []⟩ 1 = if tlB true x then some ⟨nm, true, false, []⟩ else if tlB false x then some ⟨nm, false, true, []⟩ else none := by
      show (some (⟨nm, false, false, []⟩ : Ptn)).bind (lnP d 1 (l.getD 1 [])) = _
      rw [e0]
      show lnP d 1 x ⟨nm, false, false, []⟩ = _
      rw [ln_known d 1 (by omega)]
      rfl
    have s2 : rnP d l ⟨nm, false, false, []⟩ 2 = if tlB true x && tlB false y then some ⟨nm, true, true, []⟩ else none := by
      show (rnP d l ⟨nm, false, false, []⟩ 1).bind (lnP d 2 (l.getD 2 [])) = _
      rw [s1, e1]
      cases h1 : tlB true x with
      | true =>
        show lnP d 2 y ⟨nm, true, false, []⟩ = _
        rw [ln_known d 2 (by omega)]
        cases h3 : tlB true y with
        | true =>
          have h4 : tlB false y = false := by
            cases h4 : tlB false y with
            | true => exact (tl_both h3 h4).elim
            | false => rfl
          rw [h4]
          rfl
        | false =>
          cases h4 : tlB false y <;> rfl
      | false =>
        cases h2 : tlB false x with
        | true =>
          show lnP d 2 y ⟨nm, false, true, []⟩ = _
          rw [ln_known d 2 (by omega)]
          cases tlB true y <;> cases tlB false y <;> rfl
        | false => rfl
    cases r with
    | nil =>
      show rnP d l ⟨nm, false, false, []⟩ 2 = _
      rw [s2]
      have k1' : kfB [x, y] = (tlB true x && tlB false y) := by rw [k1]; simp
      cases h : (tlB true x && tlB false y) with
      | true =>
        have hB : kfB [x, y] = true := by rw [k1', h]
        obtain ⟨a, b⟩ := k2 hB
        rw [if_pos rfl, if_pos hB, a, b]
      | false => rw [if_neg (by simp), if_neg (by rw [k1', h]; simp)]
    | cons z r =>
      have hB : kfB (x :: y :: z :: r) = false := by rw [k1]; simp
      rw [if_neg (by rw [hB]; simp)]
      have hd3 : (r.length : Int) + 3 < d := by simp at hd2; omega
      have e2 : l.getD 3 [] = z := hl 2 (by simp)
      have s3 : rnP d l ⟨nm, false, false, []⟩ 3 = none := by
        show (rnP d l ⟨nm, false, false, []⟩ 2).bind (lnP d 3 (l.getD 3 [])) = _
        rw [s2]
        cases h : (tlB true x && tlB false y) with
        | true =>
          show lnP d 3 _ ⟨nm, true, true, []⟩ = _
          rw [ln_known d 3 (by omega)]
          cases tlB true (l.getD 3 []) <;> cases tlB false (l.getD 3 []) <;> rfl
        | false => rfl
      have := rnP_none d l _ 3 s3 r.length
      rw [show 3 + r.length = (x :: y :: z :: r).length by simp; omega] at this
      exact this
/-- The lines behind the first one are the document's. -/
theorem bd_rn (x nm : List UInt8) (R : List (List UInt8)) : (if dtR (x :: R) R.length = 1 then none else rnP (dtR (x :: R) R.length) (x :: R) ⟨nm, false, false, []⟩ R.length) = bdF nm R := by
  have hd := dt_all x R
  have hge := ixL_ge dotT R
  have hlt := ixL_lt dotT R
  have hg : ∀ j, (x :: R).getD (j + 1) [] = R.getD j [] := fun j => rfl
  unfold bdF
  by_cases hE : ixL dotT R = -1
  · rw [if_pos hE] at hd ⊢
    rw [hd, if_neg (by decide)]
    have := rn_msgs (-1) (x :: R) ⟨nm, false, false, []⟩ ⟨nm, false, false, []⟩ 0 rfl (by decide) R (fun j _ => by rw [Nat.zero_add]; exact hg j) R.length (Nat.le_refl _)
    rw [Nat.zero_add, List.take_length] at this
    rw [this]
    simp
  · rw [if_neg hE] at hd ⊢
    obtain ⟨k, hk⟩ : ∃ k : Nat, ixL dotT R = (k : Int) := ⟨(ixL dotT R).toNat, by omega⟩
    rw [hk] at hd hlt ⊢
    rw [hd, Int.toNat_natCast]
    by_cases hk0 : k = 0
    · subst hk0
      rw [if_pos (by rfl)]
      rfl
    · rw [if_neg (by omega)]
      have hkR : k < R.length := by omega
      have hKl : (R.take k).length = k := by rw [List.length_take]; omega
      have hKg : ∀ j, j < (R.take k).length → (x :: R).getD (j + 1) [] = (R.take k).getD j [] := fun j hj => by
        rw [hKl] at hj
        rw [hg]
        simp [List.getElem?_take, hj]
      have hKn : R.take k ≠ [] := by
        intro e
        rw [e] at hKl
        simp at hKl
        omega
      have h1 := rn_known ((k : Int) + 1) (x :: R) nm (R.take k) (by rw [hKl]; omega) hKg hKn
      rw [hKl] at h1
      have h2 : rnP ((k : Int) + 1) (x :: R) ⟨nm, false, false, []⟩ (k + 1) = if kfB (R.take k) then some ⟨nm, kfI (R.take k) 2, kfR (R.take k) 2, []⟩ else none := by
        show (rnP ((k : Int) + 1) (x :: R) ⟨nm, false, false, []⟩ k).bind (lnP ((k : Int) + 1) (k + 1) ((x :: R).getD (k + 1) [])) = _
        rw [h1]
        cases kfB (R.take k) with
        | false => rfl
        | true =>
          show lnP ((k : Int) + 1) (k + 1) ((x :: R).getD (k + 1) []) _ = _
          unfold lnP stLn
          rw [if_pos (by omega)]
          rfl
      cases hB : kfB (R.take k) with
      | false =>
        rw [hB] at h2
        have := rnP_none _ _ _ _ h2 (R.length - (k + 1))
        rw [show k + 1 + (R.length - (k + 1)) = R.length by omega] at this
        rw [this]
        rfl
      | true =>
        rw [hB] at h2
        have hDl : (R.drop (k + 1)).length = R.length - (k + 1) := by rw [List.length_drop]
        have := rn_msgs ((k : Int) + 1) (x :: R) ⟨nm, false, false, []⟩ _ (k + 1) h2 (by omega) (R.drop (k + 1)) (fun j _ => by rw [hg]; simp [List.getElem?_drop]) (R.drop (k + 1)).length (Nat.le_refl _)
        rw [List.take_length, hDl, show k + 1 + (R.length - (k + 1)) = R.length by omega] at this
        rw [this]
        simp
theorem ps_bind (o : Option Ptn) : psO (o.bind fun q => if wrB q then some q else none) = psE o := by
  cases o with
  | none => rfl
  | some q =>
    show psO (if wrB q then some q else none) = if wrB q then (q, 0) else (zeP, 20)
    cases wrB q <;> rfl
/-- Parse answers what the document says. -/
theorem psQ_eq (s : List UInt8) : psQ s = psA s := by
  unfold psQ psA
  by_cases h4 : 4096 < s.length
  · rw [if_pos h4, if_pos h4]
  · rw [if_neg h4, if_neg h4]
    have hmem : ∀ x ∈ lnS s, x ≠ [] ∧ tfT x = x := fun x hx => ⟨(lnL_mem hx).1, ln_tf hx⟩
    cases hL : lnS s with
    | nil => rw [if_pos (.inl rfl)]; rfl
    | cons x R =>
      obtain ⟨hx, htf⟩ := hmem x (by rw [hL]; simp)
      have e0 : (x :: R).getD 0 [] = x := rfl
      have e1 : (x :: R).length - 1 = R.length := by simp
      rw [e0, e1]
      unfold rdF
      rw [if_neg (by simp), e0, nmE_eq hx]
      by_cases hc : x.getD (x.length - 1) 0 = 58
      · rw [decide_eq_true hc, if_neg (by simp), if_neg (by rintro (h | h); cases h; exact h hc), ps_bind]
        have hnm : nmX x = tmT (x.take (x.length - 1)) := by
          unfold nmX tmT
          rw [nmE_eq hx, decide_eq_true hc, if_pos rfl, tf_take htf]
        rw [hnm]
        show psE (bdF (tmT (x.take (x.length - 1))) R) = _
        rw [← bd_rn x]
        by_cases h1 : dtR (x :: R) R.length = 1
        · rw [if_pos h1, if_pos h1]; rfl
        · rw [if_neg h1, if_neg h1]
      · rw [decide_eq_false hc, if_pos rfl, if_pos (.inr hc)]
        rfl
end Go.Proofs.YtpoibhhijidobabGreatDoor
