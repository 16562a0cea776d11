/- What the document's own carrying of digits answers: contracts of the reference of layer 5. -/
import Derived.Test.YthokfcmnijpkhaaRows
import Derived.Test.YthokfcmnijpkhaaFMath
import Derived.Deep.QuietTactic
import Derived.BigQuiet
import Derived.WalkSpells
import Derived.RegionTactic
import Derived.BigRegion
namespace Go.Proofs.Ythokfcmnijpkhaa
open Go.ChangeShapes Go.WideShapes Go.ChangeAt Go.RowKit
set_option linter.unusedSimpArgs false
set_option linter.unusedVariables false

theorem infoI : (Try.prog.info? 3).map (fun i => (i.zero, i.size, i.bytes)) = some (some (.int .i64 0), 1, 8) := by kernel_rfl
theorem RdI.lit1 {k : IntKind} {w : World} {e : TypeId} (x : Int) : RdI k (w.alloc (.cells #[.int k x] e)) (.slice (some ⟨w.heap.size, 0, none⟩) 1 1) [x] :=
  (NewI.lit (k := k) (e := e) (w := w) [x] rfl rfl rfl (by simp [maxLen])).rd

set_option maxRecDepth 100000 in
set_option maxHeartbeats 1000000 in
theorem carryR_any (v : Value) (a : List Nat) (hB : ∀ x ∈ a, x ≤ 1099511627776) (hl : a.length ≤ 1000) (w : World) (hr : RdI .i64 w v (nI a)) :
    Calls Try.prog 46 #[v] w fun e w' => ∃ r L, e = .returned r ∧ a.length ≤ L ∧ dv a < 256 ^ L ∧ (∀ m, a.length ≤ m → dv a < 256 ^ m → L ≤ m) ∧ NewI .i64 3 w r (nI (dgN (dv a) L)) w' := by
  have hx : dv a < 256 ^ (a.length + 6) := by
    have h1 := dv_le _ a hB
    have h2 : 0 < 256 ^ a.length := Nat.pow_pos (by decide)
    rw [Nat.pow_add]
    generalize 256 ^ a.length = q at h1 h2 ⊢
    omega
  have HX : Hid (dv a < 256 ^ (a.length + 6)) := hx
  have HB : Hid (∀ x ∈ a, x ≤ 1099511627776) := hB
  have HR : Hid (RdI .i64 w v (nI a)) := hr
  obtain ⟨av, cap, rfl, h2, h3, h4, -⟩ := id hr
  rw [nI_length] at h2 HR ⊢
  unfold maxLen at h3
  clear hx hB hr h4
  go_enter Try.func46, Try.ntmps46
  go_wp2
  go_loopw [3, 4, 5] (fun o cv iv wr => ∃ i c : Nat, iv = .int .i64 (i : Int) ∧ cv = .int .i64 (c : Int) ∧ c ≤ 1099511627776 ∧ i ≤ 2000 ∧ Hid (c = dv (a.take i) / 256 ^ i) ∧ Hid (i ≤ a.length ∨ 256 ^ (i - 1) ≤ dv a) ∧ NewI .i64 3 w o (nI (dgN (dv (a.take i)) i)) wr) (fun _ cv iv _ => (a.length - (intOf iv).toNat) * 2199023255553 + (intOf cv).toNat)
  case atStart => exact ⟨0, 0, rfl, rfl, by omega, by omega, by simp [Hid, dv], by simp [Hid], NewI.start w⟩
  case round =>
    obtain ⟨i, c, rfl, rfl, hc, hi, HC, HI, hN⟩ := hrel
    by_cases hlt : i < a.length
    · have hd : decide ((i : Int) < (a.length : Int)) = true := decide_eq_true (by omega)
      have hiI : (i : Int) < a.length := by omega
      obtain ⟨b, off, cp, ev, -, hcell, -⟩ := (HR.out.kept hN.2).cellAt (i := i) (by rw [nI_length]; exact hlt)
      simp only [Value.slice.injEq] at ev
      obtain ⟨rfl, -, rfl⟩ := ev
      rw [nI_get] at hcell
      have hy := getD_le HB.out i
      have HS : Hid _ := carry_step (dv (a.take i)) (a.getD i 0) c i HC.out
      have HT : Hid _ := dv_take_succ a i hlt
      generalize a.getD i 0 = y at hcell hy HS HT
      obtain ⟨q, hq⟩ : ∃ q : Nat, q = (c + y) / 256 := ⟨_, rfl⟩
      obtain ⟨d, hdd⟩ : ∃ d : Nat, d = (c + y) % 256 := ⟨_, rfl⟩
      have e0 : IntKind.i64.wrap ((c : Int) + (y : Int)) = (c : Int) + (y : Int) := IntWalk.i64_in _ (by omega)
      have e1 : ((c : Int) + (y : Int)).tmod 256 = (d : Int) := by rw [Int.tmod_eq_emod_of_nonneg (by omega)]; omega
      have e2 : ((c : Int) + (y : Int)).tdiv 256 = (q : Int) := by rw [Int.tdiv_eq_ediv_of_nonneg (by omega)]; omega
      have e3 : IntKind.i64.wrap (d : Int) = (d : Int) := IntWalk.i64_in _ (by omega)
      have e4 : IntKind.i64.wrap (q : Int) = (q : Int) := IntWalk.i64_in _ (by omega)
      have hqb : q ≤ 1099511627776 := by omega
      have HQ : Hid (q = (c + y) / 256) := hq
      have HD : Hid (d = (c + y) % 256) := hdd
      have HL : Hid ((nI (dgN (dv (a.take i)) i)).length = i) := by show _ = _; rw [nI_length, dgN_length]
      have hL : RdI .i64 (wr.alloc (.cells #[.int .i64 (d : Int)] 3)) (.slice (some ⟨wr.heap.size, 0, none⟩) 1 1) [(d : Int)] := RdI.lit1 _
      clear hq hdd
      go_wp2_with (at_builtin; go_must (refine wpList_append_newI (k := .i64) (w := w) rfl _ _ 41 rfl 3 Try.underlying41 8 infoI _ _ rfl (hN.alloc _) _ _ rfl hL (by rw [HL.out]; simp; omega) (by rw [HL.out]; simp; omega) ?_))
      intro v' w3 hN3 _
      clear hN hL
      go_wp2
      go_roundw
      case rel =>
        refine ⟨i + 1, q, by go_num, by go_num, hqb, by omega, ?_, .inl (by omega), ?_⟩
        · show _ = _
          rw [HT.out, HQ.out, HS.out.1]
        · have e : nI (dgN (dv (a.take (i + 1))) (i + 1)) = nI (dgN (dv (a.take i)) i) ++ [(d : Int)] := by
            rw [HT.out, ← dgN_next, HS.out.2.1, HS.out.2.2, ← HD.out, ← nI_append]
            rfl
          rw [e]
          exact hN3
      case measure => simp [intOf]; omega
    · have hti : a.take i = a := List.take_of_length_le (by omega)
      rw [hti] at HC hN
      have hd : decide ((i : Int) < (a.length : Int)) = false := decide_eq_false (by omega)
      have hiI : (a.length : Int) ≤ i := by omega
      by_cases hc0 : 0 < c
      · have hd2 : decide ((0 : Int) < (c : Int)) = true := decide_eq_true (by omega)
        have hcI : (0 : Int) < c := by omega
        have hle : 256 ^ i ≤ dv a := by
          have := HC.out
          rcases Nat.lt_or_ge (dv a) (256 ^ i) with h | h
          · rw [Nat.div_eq_of_lt h] at this; omega
          · exact h
        have hi6 := pow256_lt hle HX.out
        have HLE : Hid (256 ^ i ≤ dv a) := hle
        have HS : Hid (dv a / 256 ^ (i + 1) = c / 256 ∧ dg (dv a) i = c % 256) := by
          have h := carry_step (dv a) 0 c i HC.out
          rw [Nat.mul_zero] at h
          exact ⟨h.1, h.2.1⟩
        obtain ⟨q, hq⟩ : ∃ q : Nat, q = c / 256 := ⟨_, rfl⟩
        obtain ⟨d, hdd⟩ : ∃ d : Nat, d = c % 256 := ⟨_, rfl⟩
        have e1 : (c : Int).tmod 256 = (d : Int) := by rw [Int.tmod_eq_emod_of_nonneg (by omega)]; omega
        have e2 : (c : Int).tdiv 256 = (q : Int) := by rw [Int.tdiv_eq_ediv_of_nonneg (by omega)]; omega
        have e3 : IntKind.i64.wrap (d : Int) = (d : Int) := IntWalk.i64_in _ (by omega)
        have e4 : IntKind.i64.wrap (q : Int) = (q : Int) := IntWalk.i64_in _ (by omega)
        have hqb : q ≤ 1099511627776 := by omega
        have hqc : q < c := by omega
        have HQ : Hid (q = c / 256) := hq
        have HD : Hid (d = c % 256) := hdd
        have HL : Hid ((nI (dgN (dv a) i)).length = i) := by show _ = _; rw [nI_length, dgN_length]
        have hL : RdI .i64 (wr.alloc (.cells #[.int .i64 (d : Int)] 3)) (.slice (some ⟨wr.heap.size, 0, none⟩) 1 1) [(d : Int)] := RdI.lit1 _
        clear hq hdd hle
        go_wp2_with (at_builtin; go_must (refine wpList_append_newI (k := .i64) (w := w) rfl _ _ 41 rfl 3 Try.underlying41 8 infoI _ _ rfl (hN.alloc _) _ _ rfl hL (by rw [HL.out]; simp; omega) (by rw [HL.out]; simp; omega) ?_))
        intro v' w3 hN3 _
        clear hN hL
        go_wp2
        go_roundw
        case rel =>
          have ht2 : a.take (i + 1) = a := List.take_of_length_le (by omega)
          refine ⟨i + 1, q, by go_num, by go_num, hqb, by omega, ?_, .inr (by simpa using HLE.out), ?_⟩
          · show _ = _
            rw [ht2, HQ.out, HS.out.1]
          · have e : nI (dgN (dv (a.take (i + 1))) (i + 1)) = nI (dgN (dv a) i) ++ [(d : Int)] := by
              rw [ht2, ← dgN_next, HS.out.2, ← HD.out, ← nI_append]
              rfl
            rw [e]
            exact hN3
        case measure => simp [intOf]; omega
      · have hc00 : c = 0 := by omega
        have hd2 : decide ((0 : Int) < (c : Int)) = false := decide_eq_false (by omega)
        have hcI : (c : Int) ≤ 0 := by omega
        have hlt2 : dv a < 256 ^ i := by
          have := HC.out
          rw [hc00] at this
          exact Nat.lt_of_div_eq_zero (Nat.pow_pos (by decide)) this.symm
        have H2 : Hid (dv a < 256 ^ i) := hlt2
        have H0 : Hid (c = 0) := hc00
        have HNN : Hid _ := hN
        clear hlt2 hc00 hN
        go_wp2
        go_ret
        refine ⟨_, i, rfl, by omega, H2.out, fun m hm h => ?_, HNN.out⟩
        rcases HI.out with h5 | h5
        · omega
        · have := pow256_lt h5 h
          omega
end Go.Proofs.Ythokfcmnijpkhaa
