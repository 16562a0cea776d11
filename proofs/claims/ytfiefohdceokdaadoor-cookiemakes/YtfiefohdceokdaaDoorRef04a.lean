/- What the document's own code of a key and bytes is, and its three keys: contracts of the reference of layer 4. -/
import Derived.Test.YtfiefohdceokdaaDoorRfb
import Derived.Test.YtfiefohdceokdaaDoorKec
namespace Go.Proofs.YtfiefohdceokdaaDoor
open Go.ChangeShapes Go.WideShapes Go.ChangeAt Go.RowKit
set_option linter.unusedSimpArgs false
set_option linter.unusedVariables false

set_option maxRecDepth 100000 in
set_option maxHeartbeats 4000000 in
theorem macR_any (vk vb : Value) (k b : List UInt8) (hk : k.length ≤ 100000) (hbl : b.length ≤ 100000) (w : World) (hrk : Rd w vk k) (hrb : Rd w vb b) :
    Calls Tryd.prog 18 #[vk, vb] w fun e w' => ∃ v, e = .returned v ∧ Rd w' v (mcF k b) ∧ Below w.heap.size w w' := by
  have HB : Hid (Rd w vb b) := hrb
  obtain ⟨ak, capk, rfl, hcapk, hmaxk, hnilk, -⟩ := id hrk
  have hK1 := kyS_length k
  have hK2 := kyL_length k
  have HK1 : Hid ((kyS k).length ≤ 136) := hK1
  have HK2 : Hid ((kyL k).length = 136) := hK2
  clear hrb hK1 hK2
  have hO0 : Own 5 w [(.slice none 0 0, [])] w := (Own.start 5 w).nil
  go_enter Tryd.func18, Tryd.ntmps18
  by_cases hlong : 136 < k.length
  case' pos =>
    have HS : Hid (s2L k = kyS k) := by show _ = _; unfold kyS; rw [if_pos hlong]
    have hd : decide ((136 : Int) < (k.length : Int)) = true := decide_eq_true (by omega)
    have hlI : (136 : Int) < (k.length : Int) := by omega
    go_wp2_with fail
    refine (sum256R_any _ k (by omega) _ hrk).mono ?_
    rintro e w1 ⟨v1, rfl, hR1, hB1⟩
    have hO1 := hO0.kept hB1
    go_wp2_with (at_builtin; go_must (refine wpList_append_Own (w0 := w) rfl _ _ 22 rfl Tryd.underlying22 infoU8 _ _ rfl hO1 _ _ rfl hR1 (by rw [otL_length]; simp) ?_))
    intro v2 w2 hO2
    have hO3 : Own 5 w [(v2, kyS k)] w2 := by
      rw [← HS.out]
      exact hO2
    clear hO2 hO1 hO0 hR1 hB1 hrk HS hd hlI hlong
  case' neg =>
    have HS : Hid (k = kyS k) := by show _ = _; unfold kyS; rw [if_neg hlong]
    have hd : decide ((136 : Int) < (k.length : Int)) = false := decide_eq_false (by omega)
    have hlI : (k.length : Int) ≤ 136 := by omega
    go_wp2_with (at_builtin; go_must (refine wpList_append_Own (w0 := w) rfl _ _ 22 rfl Tryd.underlying22 infoU8 _ _ rfl hO0 _ _ rfl hrk (by simp; omega) ?_))
    intro v2 w2 hO2
    have hO3 : Own 5 w [(v2, kyS k)] w2 := by
      rw [← HS.out]
      exact hO2
    clear hO2 hO0 hrk HS hd hlI hlong
  all_goals
    go_wp2
    go_loopw [5] (fun v wr => ∃ z : Nat, (kyS k).length + z ≤ 136 ∧ Own 5 w [(v, kyS k ++ List.replicate z 0)] wr) (fun v _ => 136 - sLen v)
    case atStart => exact ⟨0, by have := HK1.out; omega, by simpa using hO3⟩
    case round =>
      obtain ⟨z, hz, hO4⟩ := hrel
      clear hO3
      obtain ⟨a, cap, rfl, hcap, hmax, hnil, -⟩ := hO4.rd (List.mem_cons_self ..)
      have el : (kyS k ++ List.replicate z (0 : UInt8)).length = (kyS k).length + z := by simp
      rw [el] at hcap hO4 ⊢
      clear el
      obtain ⟨L, hL⟩ : ∃ L : Nat, L = (kyS k).length + z := ⟨_, rfl⟩
      have HL : Hid (L = (kyS k).length + z) := hL
      rw [← hL] at hz hcap hO4 ⊢
      clear hL
      by_cases hlt : L < 136
      · have hd : decide ((L : Int) < 136) = true := decide_eq_true (by omega)
        have hLI : (L : Int) < 136 := by omega
        have hlen : (kyS k ++ List.replicate z (0 : UInt8)).length + [(0 : UInt8)].length ≤ 140737488355328 := by have := HL.out; simp; omega
        have hL1 : Rd (wr.alloc (.cells #[.int .u8 0] 5)) (.slice (some ⟨wr.heap.size, 0, none⟩) 1 1) [0] := Rd.lit1 0 rfl
        go_wp2_with (at_builtin; go_must (refine wpList_append_Own (w0 := w) rfl _ _ 22 rfl Tryd.underlying22 infoU8 _ _ rfl (hO4.kept (growB _)) _ _ rfl hL1 hlen ?_))
        intro v5 w5 hO5
        have hO6 : Own 5 w [(v5, kyS k ++ List.replicate (z + 1) 0)] w5 := by
          rw [List.replicate_succ']
          first | exact hO5 | (rw [List.append_assoc] at hO5; exact hO5) | (rw [← List.append_assoc]; exact hO5)
        clear hO5 hO4 hL1
        obtain ⟨a6, cap6, rfl, -⟩ := hO6.rd (List.mem_cons_self ..)
        have el : (kyS k ++ List.replicate (z + 1) (0 : UInt8)).length = L + 1 := by have := HL.out; simp; omega
        rw [el] at hO6 ⊢
        clear el
        go_wp2
        go_roundw
        case rel => exact ⟨z + 1, by have := HL.out; omega, hO6⟩
        case measure => simp [sLen]; omega
      · have hd : decide ((L : Int) < 136) = false := decide_eq_false (by omega)
        have hLI : (136 : Int) ≤ (L : Int) := by omega
        have hLe : L = 136 := by omega
        have hO7 : Own 5 w [(.slice a L cap, kyL k)] wr := by
          have e : kyS k ++ List.replicate z 0 = kyL k := by
            unfold kyL
            rw [show 136 - (kyS k).length = z by have := HL.out; omega]
          rw [← e]
          exact hO4
        have hO8 : Own 5 w [(.slice none 0 0, []), (.slice none 0 0, []), (.slice a L cap, kyL k)] wr := hO7.nil.nil
        clear hO4 hO7 hLe hlt hz HL
        have hL136 : (136 : Int) ≤ L := hLI
        go_wp2
        go_loopw [6, 7, 8] (fun vi vo i wr => ∃ j : Nat, j ≤ 136 ∧ i = .int .i64 j ∧ Own 5 w [(vi, mxP (kyL k) 54 j), (vo, mxP (kyL k) 92 j), (.slice a L cap, kyL k)] wr) (fun _ _ i _ => 136 - (intOf i).toNat)
        case atStart => exact ⟨0, by omega, rfl, hO8⟩
        case round =>
          obtain ⟨j, hj, rfl, hO⟩ := hrel
          clear hO8
          by_cases hlt : j < 136
          · have hd2 : decide ((j : Int) < 136) = true := decide_eq_true (by omega)
            have hjI : (j : Int) < 136 := by omega
            have hjL : (j : Int) < (L : Int) := by omega
            have hRk := hO.rd (v := .slice a L cap) (l := kyL k) (by simp)
            obtain ⟨bb, off, cc, ev, -, cp, -⟩ := hRk.cellAt (i := j) (by have := HK2.out; omega)
            simp only [Value.slice.injEq] at ev
            obtain ⟨rfl, -, rfl⟩ := ev
            have Hi : Hid _ := mxP_next (kyL k) 54 j
            have Ho : Hid _ := mxP_next (kyL k) 92 j
            have x1 := byte_xor ((kyL k).getD j 0) 54
            have x2 := byte_xor ((kyL k).getD j 0) 92
            rw [show (((54 : UInt8).toNat : Nat) : Int) = 54 from rfl] at x1
            rw [show (((92 : UInt8).toNat : Nat) : Int) = 92 from rfl] at x2
            have l1 : (mxP (kyL k) 54 j).length + [(kyL k).getD j 0 ^^^ 54].length ≤ 140737488355328 := by rw [mxP_length]; simp; omega
            have l2 : (mxP (kyL k) 92 j).length + [(kyL k).getD j 0 ^^^ 92].length ≤ 140737488355328 := by rw [mxP_length]; simp; omega
            generalize hq : (kyL k).getD j 0 = q at cp Hi Ho x1 x2 l1 l2
            have HQ : Hid ((kyL k).getD j 0 = q) := hq
            clear hq hRk
            have r1 : Rd (wr.alloc (.cells #[.int .u8 ((q ^^^ 54).toNat : Int)] 5)) (.slice (some ⟨wr.heap.size, 0, none⟩) 1 1) [q ^^^ 54] := Rd.lit1 _ rfl
            go_wp2_with (at_builtin; go_must (refine wpList_append_Own (w0 := w) rfl _ _ 22 rfl Tryd.underlying22 infoU8 _ _ rfl (hO.kept (growB _)) _ _ rfl r1 l1 ?_))
            intro v5 w5 hO5
            rw [Hi.out] at hO5
            have hO6 : Own 5 w [(u7, mxP (kyL k) 92 j), (v5, mxP (kyL k) 54 (j + 1)), (.slice (some ⟨bb, off, none⟩) L cap, kyL k)] w5 := hO5.perm (List.Perm.swap ..)
            have hRk := hO6.rd (v := .slice (some ⟨bb, off, none⟩) L cap) (l := kyL k) (by simp)
            obtain ⟨bb2, off2, cc2, ev, -, cp2, -⟩ := hRk.cellAt (i := j) (by have := HK2.out; omega)
            simp only [Value.slice.injEq, Option.some.injEq, Addr.mk.injEq, and_true] at ev
            obtain ⟨⟨rfl, rfl⟩, -, rfl⟩ := ev
            rw [HQ.out] at cp2
            have r2 : Rd (w5.alloc (.cells #[.int .u8 ((q ^^^ 92).toNat : Int)] 5)) (.slice (some ⟨w5.heap.size, 0, none⟩) 1 1) [q ^^^ 92] := Rd.lit1 _ rfl
            clear hO5 hO hRk cp r1 Hi
            go_wp2_with (at_builtin; go_must (refine wpList_append_Own (w0 := w) rfl _ _ 22 rfl Tryd.underlying22 infoU8 _ _ rfl (hO6.kept (growB _)) _ _ rfl r2 l2 ?_))
            intro v7 w7 hO7
            rw [Ho.out] at hO7
            have hO8 : Own 5 w [(v5, mxP (kyL k) 54 (j + 1)), (v7, mxP (kyL k) 92 (j + 1)), (.slice (some ⟨bb, off, none⟩) L cap, kyL k)] w7 := hO7.perm (List.Perm.swap ..)
            clear hO7 hO6 cp2 r2 Ho
            go_wp2
            go_roundw
            case rel => exact ⟨j + 1, by omega, by go_num, hO8⟩
            case measure => simp [intOf]; omega
          · have hje : j = 136 := by omega
            have hd2 : decide ((j : Int) < 136) = false := decide_eq_false (by omega)
            have hjI : (136 : Int) ≤ (j : Int) := by omega
            rw [hje] at hO
            have hrb := HB.out.kept hO.below
            have m1 := mxP_length (kyL k) 54 136
            have m2 := mxP_length (kyL k) 92 136
            have hl1 : (mxP (kyL k) 54 136).length + b.length ≤ 140737488355328 := by omega
            have HM1 : Hid _ := m1
            have HM2 : Hid _ := m2
            clear hje m1 m2
            go_wp2_with (at_builtin; go_must (refine wpList_append_Own (w0 := w) rfl _ _ 22 rfl Tryd.underlying22 infoU8 _ _ rfl hO _ _ rfl hrb hl1 ?_))
            intro v9 w9 hO9
            have hR9 := hO9.rd (List.mem_cons_self ..)
            clear hO hrb
            go_wp2_with fail
            refine (sum256R_any _ _ (by have := HM1.out; simp; omega) _ hR9).mono ?_
            rintro e w10 ⟨v10, rfl, hR10, hB10⟩
            have hO10 := ((hO9.kept hB10).perm (List.Perm.swap ..)).perm (List.Perm.refl _)
            have hl2 : (mxP (kyL k) 92 136).length + (otL (abF 136 6 (mxP (kyL k) 54 136 ++ b)) 136 32).length ≤ 140737488355328 := by have := HM2.out; rw [otL_length]; omega
            clear hO9 hR9
            go_wp2_with (at_builtin; go_must (refine wpList_append_Own (w0 := w) rfl _ _ 22 rfl Tryd.underlying22 infoU8 _ _ rfl hO10 _ _ rfl hR10 hl2 ?_))
            intro v11 w11 hO11
            have hR11 := hO11.rd (List.mem_cons_self ..)
            have hb11 := hO11.below
            clear hO10 hO11 hR10
            go_wp2_with fail
            refine (sum256R_any _ _ (by have := HM2.out; simp [otL_length]; omega) _ hR11).mono ?_
            rintro e w12 ⟨v12, rfl, hR12, hB12⟩
            go_wp2
            go_ret
            exact ⟨_, rfl, hR12, stepB hb11 hB12⟩
end Go.Proofs.YtfiefohdceokdaaDoor
