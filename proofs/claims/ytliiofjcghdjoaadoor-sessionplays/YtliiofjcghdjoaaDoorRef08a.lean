/- What the document's own carrying of digits is: a contract of the reference of layer 8. -/
import Derived.Test.YtliiofjcghdjoaaDoorBase
import Derived.Test.YtliiofjcghdjoaaDoorChecked
import Derived.OwnWalk
import Derived.Deep.QuietTactic
import Derived.BigQuiet
import Derived.WalkSpells
import Derived.RegionTactic
import Derived.BigRegion
namespace Go.Proofs.YtliiofjcghdjoaaDoor
open Go.ChangeShapes Go.WideShapes Go.ChangeAt Go.RowKit
set_option linter.unusedSimpArgs false
set_option linter.unusedVariables false

theorem infoI8 : (Tryd.prog.info? 3).map (fun i => (i.zero, i.size, i.bytes)) = some (some (.int .i64 0), 1, 8) := by kernel_rfl
theorem lit1I8 {k : IntKind} {w : World} {e : TypeId} (x : Int) : RdI k (w.alloc (.cells #[.int k x] e)) (.slice (some ⟨w.heap.size, 0, none⟩) 1 1) [x] :=
  (NewI.lit (k := k) (e := e) (w := w) [x] rfl rfl rfl (by simp [maxLen])).rd
/-- One digit out of a sum. -/
theorem digit_facts (t : Nat) (h : t ≤ 2199023255552) : ∃ q d : Nat, q = t / 256 ∧ d = t % 256 ∧ ((t : Nat) : Int).tmod 256 = (d : Int) ∧ ((t : Nat) : Int).tdiv 256 = (q : Int) ∧ IntKind.i64.wrap (d : Int) = (d : Int) ∧ IntKind.i64.wrap (q : Int) = (q : Int) ∧ q ≤ 8589934592 ∧ IntKind.i64.wrap (t : Int) = (t : Int) := by
  refine ⟨t / 256, t % 256, rfl, rfl, ?_, ?_, ?_, ?_, by omega, ?_⟩
  · rw [Int.tmod_eq_emod_of_nonneg (by omega)]; omega
  · rw [Int.tdiv_eq_ediv_of_nonneg (by omega)]; omega
  · exact IntWalk.i64_in _ (by omega)
  · exact IntWalk.i64_in _ (by omega)
  · exact IntWalk.i64_in _ (by omega)
theorem dgN_len8 (x i : Nat) : (nI (dgN x i)).length = i := by rw [nI_length, dgN_length]
theorem carry_next (s y c i q d : Nat) (hc : c = s / 256 ^ i) (hq : q = (c + y) / 256) (hd : d = (c + y) % 256) : q = (s + 256 ^ i * y) / 256 ^ (i + 1) ∧ nI (dgN (s + 256 ^ i * y) (i + 1)) = nI (dgN s i) ++ [(d : Int)] := by
  obtain ⟨h1, h2, h3⟩ := carry_step s y c i hc
  refine ⟨by rw [h1, hq], ?_⟩
  rw [← dgN_next, h2, h3, ← hd, ← nI_append]
  rfl

/-- What the rounds make less. -/
structure Ms8 where
  f : Nat → Nat → Int → Int → Nat
  eq : ∀ l n i c, f l n i c = (l - i.toNat) * 2199023255553 + (n - i.toNat) * 8589934593 + c.toNat
theorem ms8_is : ∃ _ : Ms8, True := ⟨⟨_, fun _ _ _ _ => rfl⟩, trivial⟩
theorem ms8_in (S8 : Ms8) {l n i c q : Nat} (h : i < l) (hq : q ≤ 8589934592) : S8.f l n ((i : Int) + 1) (q : Int) < S8.f l n (i : Int) (c : Int) := by
  rw [S8.eq, S8.eq]
  have e9 : ((i : Int) + 1).toNat = i + 1 := by omega
  simp only [e9, Int.toNat_natCast]
  omega
theorem ms8_out (S8 : Ms8) {l n i c q : Nat} (h : ¬ i < l) (hq : q ≤ 8589934592) (hqc : q = c / 256) (hc : 0 < c ∨ i < n) : S8.f l n ((i : Int) + 1) (q : Int) < S8.f l n (i : Int) (c : Int) := by
  rw [S8.eq, S8.eq]
  have e9 : ((i : Int) + 1).toNat = i + 1 := by omega
  simp only [e9, Int.toNat_natCast]
  omega

set_option maxRecDepth 100000 in
set_option maxHeartbeats 2000000 in
theorem carry8_any (v : Value) (a : List Nat) (n : Nat) (M : Int) (hM : M = (n : Int)) (hn : n ≤ 100) (hB : ∀ x ∈ a, x ≤ 1099511627776) (hl : a.length ≤ 1000000000000) (w : World) (hr : RdI .i64 w v (nI a)) :
    Calls Tryd.prog 74 #[v, .int .i64 M] w fun e w' => ∃ r L, e = .returned r ∧ a.length ≤ L ∧ n ≤ L ∧ dv a < 256 ^ L ∧ (∀ m, a.length ≤ m → n ≤ m → dv a < 256 ^ m → L ≤ m) ∧ NewI .i64 3 w r (nI (dgN (dv a) L)) w' := by
  obtain ⟨S8, -⟩ := ms8_is
  subst hM
  have HX : Hid (dv a < 256 ^ (a.length + 6)) := by
    have h1 := dv_le _ a hB
    have h2 : 0 < 256 ^ a.length := Nat.pow_pos (by decide)
    show _ < _
    rw [Nat.pow_add]
    generalize 256 ^ a.length = q at h1 h2 ⊢
    omega
  have HB : Hid (∀ x ∈ a, x ≤ 1099511627776) := hB
  have HR : Hid (RdI .i64 w v (nI a)) := hr
  obtain ⟨av, cap, rfl, h2, h3, h4, -⟩ := id hr
  rw [nI_length] at h2 HR ⊢
  unfold maxLen at h3
  clear hB hr h4
  go_enter Tryd.func74, Tryd.ntmps74
  go_wp2
  go_loopw [5, 6, 7] (fun o cv iv wr => ∃ i c : Nat, iv = .int .i64 (i : Int) ∧ cv = .int .i64 (c : Int) ∧ c ≤ 8589934592 ∧ i ≤ 1000000000200 ∧ Hid (c = dv (a.take i) / 256 ^ i) ∧ Hid (i ≤ a.length ∨ i ≤ n ∨ 256 ^ (i - 1) ≤ dv a) ∧ NewI .i64 3 w o (nI (dgN (dv (a.take i)) i)) wr) (fun _ cv iv _ => S8.f a.length n (intOf iv) (intOf cv))
  case atStart => exact ⟨0, 0, rfl, rfl, by omega, by omega, by simp [Hid, dv], by simp [Hid], NewI.start w⟩
  case round =>
    obtain ⟨i, c, rfl, rfl, hc, hi, HC, HI, hN⟩ := hrel
    by_cases hlt : i < a.length
    · have hd : decide ((i : Int) < (a.length : Int)) = true := decide_eq_true (by omega)
      have hiI : (i : Int) < a.length := by omega
      obtain ⟨b, off, cp, ev, -, hcell, -⟩ := (HR.out.kept hN.2).cellAt (i := i) (by rw [nI_length]; exact hlt)
      simp only [Value.slice.injEq] at ev
      obtain ⟨rfl, -, rfl⟩ := ev
      rw [nI_get] at hcell
      have hy := getD_le HB.out i
      have HT : Hid _ := dv_take_succ a i hlt
      generalize a.getD i 0 = y at hcell hy HT
      obtain ⟨t, ht⟩ : ∃ t : Nat, t = c + y := ⟨_, rfl⟩
      obtain ⟨q, d, hq, hdd, e1, e2, e3, e4, hqb, e5⟩ := digit_facts t (by omega)
      have e0 : IntKind.i64.wrap ((c : Int) + (y : Int)) = (t : Int) := by rw [show (c : Int) + (y : Int) = (t : Int) by omega]; exact e5
      have HS : Hid (q = dv (a.take (i + 1)) / 256 ^ (i + 1) ∧ nI (dgN (dv (a.take (i + 1))) (i + 1)) = nI (dgN (dv (a.take i)) i) ++ [(d : Int)]) := by
        rw [HT.out]
        exact carry_next _ _ _ _ _ _ HC.out (by rw [hq, ht]) (by rw [hdd, ht])
      have HL : Hid _ := dgN_len8 (dv (a.take i)) i
      have hL : RdI .i64 (wr.alloc (.cells #[.int .i64 (d : Int)] 3)) (.slice (some ⟨wr.heap.size, 0, none⟩) 1 1) [(d : Int)] := lit1I8 _
      clear hq hdd ht HC HT
      go_wp2_with (at_builtin; go_must (refine wpList_append_newI (k := .i64) (w := w) rfl _ _ 68 rfl 3 Tryd.underlying68 8 infoI8 _ _ rfl (hN.alloc _) _ _ rfl hL (by rw [HL.out]; simp; omega) (by rw [HL.out]; simp; omega) ?_))
      intro v' w3 hN3 _
      rw [← HS.out.2] at hN3
      clear hN hL
      go_wp2
      go_roundw
      case rel => exact ⟨i + 1, q, by go_num, rfl, hqb, by omega, HS.out.1, .inl (by omega), hN3⟩
      case measure => exact ms8_in S8 hlt hqb
    · have hti : a.take i = a := List.take_of_length_le (by omega)
      rw [hti] at HC hN
      have hd : decide ((i : Int) < (a.length : Int)) = false := decide_eq_false (by omega)
      have hiI : (a.length : Int) ≤ i := by omega
      by_cases hcont : 0 < c ∨ i < n
      · have hi2 : i ≤ 1000000000100 := by
          rcases hcont with h | h
          · have hle : 256 ^ i ≤ dv a := by
              have := HC.out
              rcases Nat.lt_or_ge (dv a) (256 ^ i) with h' | h'
              · rw [Nat.div_eq_of_lt h'] at this; omega
              · exact h'
            have hi6 := pow256_lt hle HX.out
            omega
          · omega
        have HLE : Hid (i + 1 ≤ a.length ∨ i + 1 ≤ n ∨ 256 ^ (i + 1 - 1) ≤ dv a) := by
          rcases hcont with h | h
          · refine .inr (.inr ?_)
            have := HC.out
            rcases Nat.lt_or_ge (dv a) (256 ^ i) with h' | h'
            · rw [Nat.div_eq_of_lt h'] at this; omega
            · exact h'
          · exact .inr (.inl (by omega))
        obtain ⟨q, dd, hq, hdd, e1, e2, e3, e4, hqb, e5⟩ := digit_facts c (by omega)
        have hmeas : Hid _ := ms8_out S8 (l := a.length) hlt hqb hq hcont
        have HS : Hid (q = dv a / 256 ^ (i + 1) ∧ nI (dgN (dv a) (i + 1)) = nI (dgN (dv a) i) ++ [(dd : Int)]) := by
          have h := carry_next (dv a) 0 c i q dd HC.out (by rw [Nat.add_zero]; exact hq) (by rw [Nat.add_zero]; exact hdd)
          rw [Nat.mul_zero, Nat.add_zero] at h
          exact h
        have HL : Hid _ := dgN_len8 (dv a) i
        have HTI : Hid (a.take (i + 1) = a) := by show _ = _; exact List.take_of_length_le (by omega)
        by_cases hc0 : 0 < c
        · have hL : RdI .i64 (wr.alloc (.cells #[.int .i64 (dd : Int)] 3)) (.slice (some ⟨wr.heap.size, 0, none⟩) 1 1) [(dd : Int)] := lit1I8 _
          have hd2 : decide ((0 : Int) < (c : Int)) = true := decide_eq_true (by omega)
          have hcI : (0 : Int) < c := by omega
          clear hq hdd HC hcont hc0
          go_wp2_with (at_builtin; go_must (refine wpList_append_newI (k := .i64) (w := w) rfl _ _ 68 rfl 3 Tryd.underlying68 8 infoI8 _ _ rfl (hN.alloc _) _ _ rfl hL (by rw [HL.out]; simp; omega) (by rw [HL.out]; simp; omega) ?_))
          intro v' w3 hN3 _
          rw [← HS.out.2] at hN3
          clear hN hL
          go_wp2
          go_roundw
          case rel => exact ⟨i + 1, q, by go_num, rfl, hqb, by omega, by rw [HTI.out]; exact HS.out.1, HLE, by rw [HTI.out]; exact hN3⟩
          case measure => exact hmeas.out
        · have h00 : c = 0 := by omega
          subst h00
          have hq0 : q = 0 := by omega
          have hd0 : dd = 0 := by omega
          subst hq0
          subst hd0
          have hL : RdI .i64 (wr.alloc (.cells #[.int .i64 0] 3)) (.slice (some ⟨wr.heap.size, 0, none⟩) 1 1) [0] := lit1I8 _
          have hin : i < n := by omega
          have hd3 : decide ((i : Int) < (n : Int)) = true := decide_eq_true (by omega)
          have hinI : (i : Int) < (n : Int) := by omega
          have hS2 : Hid (nI (dgN (dv a) (i + 1)) = nI (dgN (dv a) i) ++ [(0 : Int)]) := HS.out.2
          clear hq hdd HC hcont hc0 e1 e2 e3 e4 e5
          go_wp2_with (at_builtin; go_must (refine wpList_append_newI (k := .i64) (w := w) rfl _ _ 68 rfl 3 Tryd.underlying68 8 infoI8 _ _ rfl (hN.alloc _) _ _ rfl hL (by rw [HL.out]; simp; omega) (by rw [HL.out]; simp; omega) ?_))
          intro v' w3 hN3 _
          rw [← hS2.out] at hN3
          clear hN hL
          go_wp2
          go_roundw
          case rel => exact ⟨i + 1, 0, by go_num, rfl, by omega, by omega, by rw [HTI.out]; exact HS.out.1, HLE, by rw [HTI.out]; exact hN3⟩
          case measure => exact hmeas.out
      · have hc0 : c = 0 := by omega
        subst hc0
        have hin : ¬ i < n := fun h => hcont (.inr h)
        have hd2 : decide ((i : Int) < (n : Int)) = false := decide_eq_false (by omega)
        have hinI : (n : Int) ≤ (i : Int) := by omega
        have HE : Hid (a.length ≤ i ∧ n ≤ i ∧ dv a < 256 ^ i ∧ ∀ m, a.length ≤ m → n ≤ m → dv a < 256 ^ m → i ≤ m) := by
          refine ⟨by omega, by omega, ?_, fun m h1 h2 h3 => ?_⟩
          · rcases Nat.lt_or_ge (dv a) (256 ^ i) with h | h
            · exact h
            · have := Nat.div_pos h (Nat.pow_pos (by decide))
              have h2 := HC.out
              omega
          · rcases HI.out with h | h | h
            · omega
            · omega
            · have := pow256_lt h h3
              omega
        clear HC HI hcont
        go_wp2
        go_ret
        exact ⟨_, i, rfl, HE.out.1, HE.out.2.1, HE.out.2.2.1, HE.out.2.2.2, hN⟩
end Go.Proofs.YtliiofjcghdjoaaDoor
