/- Which numbers came, as the document's own list has it: contracts of the reference of layer 20. -/
import Derived.Test.YtmgkocoemgpgbaaWnMath
import Derived.Test.YtmgkocoemgpgbaaRows
import Derived.Test.YtmgkocoemgpgbaaMem
import Derived.OwnWalk
import Derived.Deep.QuietTactic
import Derived.BigQuiet
import Derived.WalkSpells
import Derived.RegionTactic
import Derived.BigRegion
namespace Go.Proofs.Ytmgkocoemgpgbaa
open Go.ChangeShapes Go.WideShapes Go.ChangeAt Go.RowKit
set_option linter.unusedSimpArgs false
set_option linter.unusedVariables false

theorem ret20 {a b : Int} {p q : Bool} (h1 : a = b) (h2 : p = q) : Ending.returned (.tuple #[.int .u64 b, .bool q]) = .returned (.tuple #[.int .u64 a, .bool p]) := by rw [h1, h2]

set_option maxRecDepth 100000 in
set_option maxHeartbeats 2000000 in
theorem top20_any (v : Value) (l : List Nat) (hl : ∀ x ∈ l, x < 18446744073709551616) (w : World) (hr : RdI .u64 w v (nU l)) :
    Calls Try.prog 11 #[v] w fun e w' => e = .returned (.tuple #[.int .u64 ((tpN l : Nat) : Int), .bool (decide (0 < l.length))]) ∧ w' = w := by
  obtain ⟨a, c, rfl, h2, h3, -, h5⟩ := id hr
  rw [nU_length] at h2 h5 ⊢
  unfold maxLen at h3
  obtain ⟨n, hn⟩ : ∃ n : Nat, n = l.length := ⟨_, rfl⟩
  have HN : Hid (n = l.length) := hn
  have HL : Hid (∀ x ∈ l, x < 18446744073709551616) := hl
  have HC : Hid (∀ i, i < n → ∃ b off, a = some ⟨b, off, none⟩ ∧ w.cell? ⟨b, off + i, none⟩ = some (.int .u64 ((l.getD i 0 : Nat) : Int))) := by
    show ∀ i, _
    intro i hi
    rcases h5 with h5 | ⟨b, off, rfl, hc⟩
    · rw [hn, ← nU_length, h5] at hi
      simp at hi
    · refine ⟨b, off, rfl, ?_⟩
      rw [hc i (by rw [← hn]; exact hi), nU_getD]
  rw [← hn] at h2 ⊢
  clear hr h5 hl hn
  go_enter Try.func11, Try.ntmps11
  go_wp2
  go_loop [4, 5] (fun xv iv => ∃ i x : Nat, i ≤ n ∧ iv = .int .i64 (i : Int) ∧ xv = .int .u64 (x : Int) ∧ Hid (x = tpN (l.take i))) (fun _ iv => n - (intOf iv).toNat)
  case atStart => exact ⟨0, 0, by omega, rfl, rfl, (by simp [tpN] : (0 : Nat) = tpN (l.take 0))⟩
  case round =>
    obtain ⟨i, x, hi, rfl, rfl, HX⟩ := hrel
    by_cases hlt : i < n
    · have hd : decide ((i : Int) < (n : Int)) = true := decide_eq_true (by omega)
      have hiI : (i : Int) < (n : Int) := by omega
      obtain ⟨b, off, rfl, hc⟩ := HC.out i hlt
      have hx : tpN (l.take (i + 1)) = max x (l.getD i 0) := by rw [take_snoc (by rw [← HN.out]; exact hlt), tpN_snoc, ← HX.out]
      obtain ⟨y, hy⟩ : ∃ y : Nat, y = l.getD i 0 := ⟨_, rfl⟩
      rw [← hy] at hc hx
      clear hy
      by_cases hxy : x < y
      · have d : decide ((x : Int) < (y : Int)) = true := decide_eq_true (by omega)
        have dN : decide (x < y) = true := decide_eq_true hxy
        have HX2 : Hid (y = tpN (l.take (i + 1))) := (by rw [hx]; omega : y = tpN (l.take (i + 1)))
        clear hx
        go_wp2
        go_round
        case rel => exact ⟨i + 1, y, by omega, by go_num, rfl, HX2⟩
        case measure => simp [intOf]; omega
      · have d : decide ((x : Int) < (y : Int)) = false := decide_eq_false (by omega)
        have dN : decide (x < y) = false := decide_eq_false hxy
        have HX2 : Hid (x = tpN (l.take (i + 1))) := (by rw [hx]; omega : x = tpN (l.take (i + 1)))
        clear hx
        go_wp2
        go_round
        case rel => exact ⟨i + 1, x, by omega, by go_num, rfl, HX2⟩
        case measure => simp [intOf]; omega
    · have hd : decide ((i : Int) < (n : Int)) = false := decide_eq_false (by omega)
      have HF : Hid (tpN l = x) := (by rw [HX.out, List.take_of_length_le (by rw [← HN.out]; omega)] : tpN l = x)
      by_cases h0 : 0 < n
      · have d : decide ((0 : Int) < (n : Int)) = true := decide_eq_true (by omega)
        go_wp2
        go_ret2
        exact ⟨ret20 (by rw [HF.out]) rfl, rfl⟩
      · have d : decide ((0 : Int) < (n : Int)) = false := decide_eq_false (by omega)
        go_wp2
        go_ret2
        exact ⟨ret20 (by rw [HF.out]) rfl, rfl⟩

set_option maxRecDepth 100000 in
set_option maxHeartbeats 2000000 in
theorem check20_any (v : Value) (l : List Nat) (hl : ∀ x ∈ l, x < 18446744073709551616) (n : Nat) (hn64 : n < 18446744073709551616) (w : World) (hr : RdI .u64 w v (nU l)) :
    Calls Try.prog 13 #[v, .int .u64 (n : Int)] w fun e w' => e = .returned (.int .i64 (cmE l n)) ∧ w' = w := by
  have hT := top20_any v l hl w hr
  obtain ⟨a, c, rfl, h2, h3, -, h5⟩ := id hr
  rw [nU_length] at h2 h5 hT ⊢
  unfold maxLen at h3
  obtain ⟨m, hm⟩ : ∃ m : Nat, m = l.length := ⟨_, rfl⟩
  have HN : Hid (m = l.length) := hm
  have HTl : Hid (tpN l < 18446744073709551616) := tpN_lt (by decide) hl
  have HC : Hid (∀ i, i < m → ∃ b off, a = some ⟨b, off, none⟩ ∧ w.cell? ⟨b, off + i, none⟩ = some (.int .u64 ((l.getD i 0 : Nat) : Int))) := by
    show ∀ i, _
    intro i hi
    rcases h5 with h5 | ⟨b, off, rfl, hc⟩
    · rw [hm, ← nU_length, h5] at hi
      simp at hi
    · refine ⟨b, off, rfl, ?_⟩
      rw [hc i (by rw [← hm]; exact hi), nU_getD]
  rw [← hm] at h2 hT ⊢
  have HT : Hid (Calls Try.prog 11 #[.slice a m c] w fun e w' => e = .returned (.tuple #[.int .u64 ((tpN l : Nat) : Int), .bool (decide (0 < m))]) ∧ w' = w) := hT
  obtain ⟨R, hR⟩ : ∃ R, R = cmE l n := ⟨_, rfl⟩
  rw [← hR]
  have HR : Hid (R = cmE l n) := hR
  clear hr h5 hl hm hR hT
  go_enter Try.func13, Try.ntmps13
  go_wp2
  go_loop [5] (fun iv => ∃ i : Nat, i ≤ m ∧ iv = .int .i64 (i : Int) ∧ Hid (n ∉ l.take i)) (fun iv => m - (intOf iv).toNat)
  case atStart => exact ⟨0, by omega, rfl, (by simp : n ∉ l.take 0)⟩
  case round =>
    obtain ⟨i, hi, rfl, HX⟩ := hrel
    by_cases hlt : i < m
    · have hd : decide ((i : Int) < (m : Int)) = true := decide_eq_true (by omega)
      have hiI : (i : Int) < (m : Int) := by omega
      obtain ⟨b, off, rfl, hc⟩ := HC.out i hlt
      obtain ⟨y, hy⟩ : ∃ y : Nat, y = l.getD i 0 := ⟨_, rfl⟩
      rw [← hy] at hc
      by_cases he : y = n
      · have d : ((y : Int) == (n : Int)) = true := by simp [he]
        have dN : (y == n) = true := by simp [he]
        have HF : Hid (R = 43) := by
          show _ = _
          rw [HR.out, cmE, if_pos]
          have hil : i < l.length := by rw [← HN.out]; exact hlt
          rw [← he, hy]
          simp [hil]
        clear hy he
        go_wp2
        go_ret
        exact ⟨retI HF.out.symm, rfl⟩
      · have d : ((y : Int) == (n : Int)) = false := by rw [beq_eq_false_iff_ne]; omega
        have dN : (y == n) = false := by rw [beq_eq_false_iff_ne]; exact he
        have HX2 : Hid (n ∉ l.take (i + 1)) := mem_take (by rw [← HN.out]; exact hlt) HX.out (by rw [← hy]; exact he)
        clear hy he
        go_wp2
        go_round
        case rel => exact ⟨i + 1, by omega, by go_num, HX2⟩
        case measure => simp [intOf]; omega
    · have hd : decide ((i : Int) < (m : Int)) = false := decide_eq_false (by omega)
      have HNo : Hid (n ∉ l) := by
        have := HX.out
        rw [List.take_of_length_le (by rw [← HN.out]; omega)] at this
        exact this
      go_wp2_with fail
      refine HT.out.mono ?_
      rintro e w1 ⟨rfl, rfl⟩
      have hTl := HTl.out
      generalize htp : tpN l = t at hTl
      have HRt : Hid (R = if n < t ∧ 128 ≤ t - n then 43 else 0) := (by rw [HR.out, cmE, if_neg HNo.out, htp] : R = if n < t ∧ 128 ≤ t - n then 43 else 0)
      generalize decide (0 < m) = qq
      clear htp HR HNo HC HX
      by_cases h1 : n < t
      · have d1 : decide ((n : Int) < (t : Int)) = true := decide_eq_true (by omega)
        have dN : decide (n < t) = true := decide_eq_true h1
        obtain ⟨D, hD⟩ : ∃ D : Nat, D = t - n := ⟨_, rfl⟩
        have e1 : (t : Int) - (n : Int) = (D : Int) := by omega
        have e2 : IntKind.u64.wrap ((t : Int) - (n : Int)) = (D : Int) := by rw [e1, IntKind.wrap_u64]; omega
        rw [← hD] at HRt
        clear e1 hD
        by_cases h3 : 128 ≤ D
        · have d2 : decide ((128 : Int) ≤ (D : Int)) = true := decide_eq_true (by omega)
          have HF : Hid (R = 43) := (by rw [HRt.out, if_pos ⟨h1, h3⟩] : R = 43)
          go_wp2
          go_ret
          exact ⟨retI HF.out.symm, rfl⟩
        · have d2 : decide ((128 : Int) ≤ (D : Int)) = false := decide_eq_false (by omega)
          have HF : Hid (R = 0) := (by rw [HRt.out, if_neg (fun h => h3 h.2)] : R = 0)
          go_wp2
          go_ret
          exact ⟨retI HF.out.symm, rfl⟩
      · have d1 : decide ((n : Int) < (t : Int)) = false := decide_eq_false (by omega)
        have dN : decide (n < t) = false := decide_eq_false h1
        have HF : Hid (R = 0) := (by rw [HRt.out, if_neg (fun h => h1 h.1)] : R = 0)
        go_wp2
        go_ret
        exact ⟨retI HF.out.symm, rfl⟩
theorem infoU20 : (Try.prog.info? 24).map (fun i => (i.zero, i.size, i.bytes)) = some (some (.int .u64 0), 1, 8) := by kernel_rfl

set_option maxRecDepth 100000 in
set_option maxHeartbeats 2000000 in
theorem mark20_any (v : Value) (l : List Nat) (hl : ∀ x ∈ l, x < 18446744073709551616) (hlen : l.length ≤ 1000000) (n : Nat) (hn64 : n < 18446744073709551616) (w : World) (hr : RdI .u64 w v (nU l)) :
    Calls Try.prog 9 #[v, .int .u64 (n : Int)] w fun e w' => ∃ v', e = .returned (.tuple #[v', .int .i64 (mkL l n).2]) ∧ RdI .u64 w' v' (nU (mkL l n).1) ∧ Below w.heap.size w w' := by
  have hC := check20_any v l hl n hn64 w hr
  have hway := cmE_ways l n
  have HM : Hid (mkL l n = if cmE l n = 0 then (l ++ [n], 0) else (l, cmE l n)) := rfl
  obtain ⟨a, c, rfl, h2, h3, -, -⟩ := id hr
  have HR : Hid (RdI .u64 w (.slice a (nU l).length c) (nU l)) := hr
  have HLe : Hid ((nU l).length ≤ 1000000) := by show _ ≤ _; rw [nU_length]; exact hlen
  obtain ⟨R, hR⟩ : ∃ R, R = cmE l n := ⟨_, rfl⟩
  obtain ⟨G, hG⟩ : ∃ G, G = mkL l n := ⟨_, rfl⟩
  rw [← hR] at HM hC
  have HC : Hid (Calls Try.prog 13 #[.slice a (nU l).length c, .int .u64 (n : Int)] w fun e w' => e = .returned (.int .i64 R) ∧ w' = w) := hC
  rw [← hG] at HM ⊢
  have hway2 : R = 43 ∨ R = 0 := by rw [hR]; rcases hway with ⟨h, -⟩ | ⟨h, -⟩ <;> simp [h]
  clear hr hl hway hR hG h2 h3 hlen hC
  go_enter Try.func9, Try.ntmps9
  go_wp2_with fail
  refine HC.out.mono ?_
  rintro e w1 ⟨rfl, rfl⟩
  rcases hway2 with rfl | rfl
  · have hG : G = (l, 43) := HM.out
    subst hG
    go_wp2
    go_ret2
    exact ⟨_, rfl, HR.out, Below.refl _ _⟩
  · have hG : G = (l ++ [n], 0) := HM.out
    subst hG
    clear HM
    go_wp2_with (at_builtin; go_must (refine wpList_append_newI (k := .u64) (w := w1) rfl _ _ 22 rfl 24 Try.underlying22 8 infoU20 _ [] rfl (NewI.start _) _ _ rfl HR.out (by have := HLe.out; simp; omega) (by have := HLe.out; simp; omega) ?_))
    intro v2 w2 hN2 _
    have HN2 : Hid (NewI .u64 24 w1 v2 (nU l) w2) := hN2
    clear hN2
    obtain ⟨a2, c2, rfl, -⟩ := id HN2.out.rd
    have hlit : RdI .u64 (w2.alloc (.cells #[.int .u64 (n : Int)] 24)) (.slice (some ⟨w2.heap.size, 0, none⟩) 1 1) [(n : Int)] := (NewI.lit (k := .u64) (w := w2) (e := 24) [(n : Int)] rfl rfl rfl (by simp [maxLen])).rd
    have HLit : Hid _ := hlit
    clear hlit
    go_wp2_with (at_builtin; go_must (refine wpList_append_newI (k := .u64) (w := w1) rfl _ _ 22 rfl 24 Try.underlying22 8 infoU20 _ _ rfl (HN2.out.alloc _) _ _ rfl HLit.out (by have := HLe.out; simp; omega) (by have := HLe.out; simp; omega) ?_))
    intro v3 w3 hN3 _
    rw [← nU_snoc] at hN3
    have HN3 : Hid (NewI .u64 24 w1 v3 (nU (l ++ [n])) w3) := hN3
    clear hN3 HN2
    obtain ⟨a3, c3, rfl, -⟩ := id HN3.out.rd
    go_wp2
    go_ret2
    exact ⟨_, rfl, HN3.out.rd, HN3.out.2⟩
set_option maxRecDepth 100000 in
set_option maxHeartbeats 2000000 in
theorem mark20_new (v : Value) (l : List Nat) (hl : ∀ x ∈ l, x < 18446744073709551616) (hlen : l.length ≤ 1000000) (n : Nat) (hn64 : n < 18446744073709551616) (hok : cmE l n = 0) (w : World) (hr : RdI .u64 w v (nU l)) :
    Calls Try.prog 9 #[v, .int .u64 (n : Int)] w fun e w' => ∃ v', e = .returned (.tuple #[v', .int .i64 0]) ∧ NewI .u64 24 w v' (nU (l ++ [n])) w' := by
  have hC := check20_any v l hl n hn64 w hr
  rw [hok] at hC
  obtain ⟨a, c, rfl, h2, h3, -, -⟩ := id hr
  have HR : Hid (RdI .u64 w (.slice a (nU l).length c) (nU l)) := hr
  have HLe : Hid ((nU l).length ≤ 1000000) := by show _ ≤ _; rw [nU_length]; exact hlen
  have HC : Hid (Calls Try.prog 13 #[.slice a (nU l).length c, .int .u64 (n : Int)] w fun e w' => e = .returned (.int .i64 0) ∧ w' = w) := hC
  clear hr hl h2 h3 hlen hC hok
  go_enter Try.func9, Try.ntmps9
  go_wp2_with fail
  refine HC.out.mono ?_
  rintro e w1 ⟨rfl, rfl⟩
  go_wp2_with (at_builtin; go_must (refine wpList_append_newI (k := .u64) (w := w1) rfl _ _ 22 rfl 24 Try.underlying22 8 infoU20 _ [] rfl (NewI.start _) _ _ rfl HR.out (by have := HLe.out; simp; omega) (by have := HLe.out; simp; omega) ?_))
  intro v2 w2 hN2 _
  have HN2 : Hid (NewI .u64 24 w1 v2 (nU l) w2) := hN2
  clear hN2
  obtain ⟨a2, c2, rfl, -⟩ := id HN2.out.rd
  have hlit : RdI .u64 (w2.alloc (.cells #[.int .u64 (n : Int)] 24)) (.slice (some ⟨w2.heap.size, 0, none⟩) 1 1) [(n : Int)] := (NewI.lit (k := .u64) (w := w2) (e := 24) [(n : Int)] rfl rfl rfl (by simp [maxLen])).rd
  have HLit : Hid _ := hlit
  clear hlit
  go_wp2_with (at_builtin; go_must (refine wpList_append_newI (k := .u64) (w := w1) rfl _ _ 22 rfl 24 Try.underlying22 8 infoU20 _ _ rfl (HN2.out.alloc _) _ _ rfl HLit.out (by have := HLe.out; simp; omega) (by have := HLe.out; simp; omega) ?_))
  intro v3 w3 hN3 _
  rw [← nU_snoc] at hN3
  have HN3 : Hid (NewI .u64 24 w1 v3 (nU (l ++ [n])) w3) := hN3
  clear hN3 HN2
  obtain ⟨a3, c3, rfl, -⟩ := id HN3.out.rd
  go_wp2
  go_ret2
  exact ⟨_, rfl, HN3.out⟩
end Go.Proofs.Ytmgkocoemgpgbaa
