/- What functions of the program, or of the reference, answer: contracts; several texts in one. -/
import Derived.Test.YtliiofjcghdjoaaDoorSmt
import Derived.Test.YtliiofjcghdjoaaDoorRows
import Derived.Test.YtliiofjcghdjoaaDoorBase
import Derived.OwnWalk
import Derived.Deep.QuietTactic
import Derived.BigQuiet
import Derived.WalkSpells
import Derived.RegionTactic
import Derived.BigRegion
import Derived.Test.YtliiofjcghdjoaaDoorRef09b
import Derived.Test.YtliiofjcghdjoaaDoorRfb

/- Which numbers came, as the document's own list has it: contracts of the reference of layer 20. -/
namespace Go.Proofs.YtliiofjcghdjoaaDoor
open Go.ChangeShapes Go.WideShapes Go.ChangeAt Go.RowKit
set_option linter.unusedSimpArgs false
set_option linter.unusedVariables false

theorem ret20 {a b : Int} {p q : Bool} (h1 : a = b) (h2 : p = q) : Ending.returned (.tuple #[.int .u64 b, .bool q]) = .returned (.tuple #[.int .u64 a, .bool p]) := by rw [h1, h2]

set_option maxRecDepth 100000 in
set_option maxHeartbeats 2000000 in
theorem top20_any (v : Value) (l : List Nat) (hl : ∀ x ∈ l, x < 18446744073709551616) (w : World) (hr : RdI .u64 w v (nU l)) :
    Calls Tryd.prog 45 #[v] w fun e w' => e = .returned (.tuple #[.int .u64 ((tpN l : Nat) : Int), .bool (decide (0 < l.length))]) ∧ w' = w := by
  obtain ⟨a, c, rfl, h2, h3, -, h5⟩ := id hr
  rw [nU_length] at h2 h5 ⊢
  unfold maxLen at h3
  obtain ⟨n, hn⟩ : ∃ n : Nat, n = l.length := ⟨_, rfl⟩
  have HN : Hid (n = l.length) := hn
  have HL : Hid (∀ x ∈ l, x < 18446744073709551616) := hl
  have HC : Hid (∀ i, i < n → ∃ b off, a = some ⟨b, off, none⟩ ∧ w.cell? ⟨b, off + i, none⟩ = some (.int .u64 ((l.getD i 0 : Nat) : Int))) := by
    show ∀ i, _
    intro i hi
    rcases h5 with h5 | ⟨b, off, rfl, hc⟩
    · rw [hn, ← nU_length, h5] at hi
      simp at hi
    · refine ⟨b, off, rfl, ?_⟩
      rw [hc i (by rw [← hn]; exact hi), nU_getD]
  rw [← hn] at h2 ⊢
  clear hr h5 hl hn
  go_enter Tryd.func45, Tryd.ntmps45
  go_wp2
  go_loop [4, 5] (fun xv iv => ∃ i x : Nat, i ≤ n ∧ iv = .int .i64 (i : Int) ∧ xv = .int .u64 (x : Int) ∧ Hid (x = tpN (l.take i))) (fun _ iv => n - (intOf iv).toNat)
  case atStart => exact ⟨0, 0, by omega, rfl, rfl, (by simp [tpN] : (0 : Nat) = tpN (l.take 0))⟩
  case round =>
    obtain ⟨i, x, hi, rfl, rfl, HX⟩ := hrel
    by_cases hlt : i < n
    · have hd : decide ((i : Int) < (n : Int)) = true := decide_eq_true (by omega)
      have hiI : (i : Int) < (n : Int) := by omega
      obtain ⟨b, off, rfl, hc⟩ := HC.out i hlt
      have hx : tpN (l.take (i + 1)) = max x (l.getD i 0) := by rw [take_snoc (by rw [← HN.out]; exact hlt), tpN_snoc, ← HX.out]
      obtain ⟨y, hy⟩ : ∃ y : Nat, y = l.getD i 0 := ⟨_, rfl⟩
      rw [← hy] at hc hx
      clear hy
      by_cases hxy : x < y
      · have d : decide ((x : Int) < (y : Int)) = true := decide_eq_true (by omega)
        have dN : decide (x < y) = true := decide_eq_true hxy
        have HX2 : Hid (y = tpN (l.take (i + 1))) := (by rw [hx]; omega : y = tpN (l.take (i + 1)))
        clear hx
        go_wp2
        go_round
        case rel => exact ⟨i + 1, y, by omega, by go_num, rfl, HX2⟩
        case measure => simp [intOf]; omega
      · have d : decide ((x : Int) < (y : Int)) = false := decide_eq_false (by omega)
        have dN : decide (x < y) = false := decide_eq_false hxy
        have HX2 : Hid (x = tpN (l.take (i + 1))) := (by rw [hx]; omega : x = tpN (l.take (i + 1)))
        clear hx
        go_wp2
        go_round
        case rel => exact ⟨i + 1, x, by omega, by go_num, rfl, HX2⟩
        case measure => simp [intOf]; omega
    · have hd : decide ((i : Int) < (n : Int)) = false := decide_eq_false (by omega)
      have HF : Hid (tpN l = x) := (by rw [HX.out, List.take_of_length_le (by rw [← HN.out]; omega)] : tpN l = x)
      by_cases h0 : 0 < n
      · have d : decide ((0 : Int) < (n : Int)) = true := decide_eq_true (by omega)
        go_wp2
        go_ret2
        exact ⟨ret20 (by rw [HF.out]) rfl, rfl⟩
      · have d : decide ((0 : Int) < (n : Int)) = false := decide_eq_false (by omega)
        go_wp2
        go_ret2
        exact ⟨ret20 (by rw [HF.out]) rfl, rfl⟩

set_option maxRecDepth 100000 in
set_option maxHeartbeats 2000000 in
theorem check20_any (v : Value) (l : List Nat) (hl : ∀ x ∈ l, x < 18446744073709551616) (n : Nat) (hn64 : n < 18446744073709551616) (w : World) (hr : RdI .u64 w v (nU l)) :
    Calls Tryd.prog 35 #[v, .int .u64 (n : Int)] w fun e w' => e = .returned (.int .i64 (cmE l n)) ∧ w' = w := by
  have hT := top20_any v l hl w hr
  obtain ⟨a, c, rfl, h2, h3, -, h5⟩ := id hr
  rw [nU_length] at h2 h5 hT ⊢
  unfold maxLen at h3
  obtain ⟨m, hm⟩ : ∃ m : Nat, m = l.length := ⟨_, rfl⟩
  have HN : Hid (m = l.length) := hm
  have HTl : Hid (tpN l < 18446744073709551616) := tpN_lt (by decide) hl
  have HC : Hid (∀ i, i < m → ∃ b off, a = some ⟨b, off, none⟩ ∧ w.cell? ⟨b, off + i, none⟩ = some (.int .u64 ((l.getD i 0 : Nat) : Int))) := by
    show ∀ i, _
    intro i hi
    rcases h5 with h5 | ⟨b, off, rfl, hc⟩
    · rw [hm, ← nU_length, h5] at hi
      simp at hi
    · refine ⟨b, off, rfl, ?_⟩
      rw [hc i (by rw [← hm]; exact hi), nU_getD]
  rw [← hm] at h2 hT ⊢
  have HT : Hid (Calls Tryd.prog 45 #[.slice a m c] w fun e w' => e = .returned (.tuple #[.int .u64 ((tpN l : Nat) : Int), .bool (decide (0 < m))]) ∧ w' = w) := hT
  obtain ⟨R, hR⟩ : ∃ R, R = cmE l n := ⟨_, rfl⟩
  rw [← hR]
  have HR : Hid (R = cmE l n) := hR
  clear hr h5 hl hm hR hT
  go_enter Tryd.func35, Tryd.ntmps35
  go_wp2
  go_loop [5] (fun iv => ∃ i : Nat, i ≤ m ∧ iv = .int .i64 (i : Int) ∧ Hid (n ∉ l.take i)) (fun iv => m - (intOf iv).toNat)
  case atStart => exact ⟨0, by omega, rfl, (by simp : n ∉ l.take 0)⟩
  case round =>
    obtain ⟨i, hi, rfl, HX⟩ := hrel
    by_cases hlt : i < m
    · have hd : decide ((i : Int) < (m : Int)) = true := decide_eq_true (by omega)
      have hiI : (i : Int) < (m : Int) := by omega
      obtain ⟨b, off, rfl, hc⟩ := HC.out i hlt
      obtain ⟨y, hy⟩ : ∃ y : Nat, y = l.getD i 0 := ⟨_, rfl⟩
      rw [← hy] at hc
      by_cases he : y = n
      · have d : ((y : Int) == (n : Int)) = true := by simp [he]
        have dN : (y == n) = true := by simp [he]
        have HF : Hid (R = 43) := by
          show _ = _
          rw [HR.out, cmE, if_pos]
          have hil : i < l.length := by rw [← HN.out]; exact hlt
          rw [← he, hy]
          simp [hil]
        clear hy he
        go_wp2
        go_ret
        exact ⟨retI HF.out.symm, rfl⟩
      · have d : ((y : Int) == (n : Int)) = false := by rw [beq_eq_false_iff_ne]; omega
        have dN : (y == n) = false := by rw [beq_eq_false_iff_ne]; exact he
        have HX2 : Hid (n ∉ l.take (i + 1)) := mem_take (by rw [← HN.out]; exact hlt) HX.out (by rw [← hy]; exact he)
        clear hy he
        go_wp2
        go_round
        case rel => exact ⟨i + 1, by omega, by go_num, HX2⟩
        case measure => simp [intOf]; omega
    · have hd : decide ((i : Int) < (m : Int)) = false := decide_eq_false (by omega)
      have HNo : Hid (n ∉ l) := by
        have := HX.out
        rw [List.take_of_length_le (by rw [← HN.out]; omega)] at this
        exact this
      go_wp2_with fail
      refine HT.out.mono ?_
      rintro e w1 ⟨rfl, rfl⟩
      have hTl := HTl.out
      generalize htp : tpN l = t at hTl
      have HRt : Hid (R = if n < t ∧ 128 ≤ t - n then 43 else 0) := (by rw [HR.out, cmE, if_neg HNo.out, htp] : R = if n < t ∧ 128 ≤ t - n then 43 else 0)
      generalize decide (0 < m) = qq
      clear htp HR HNo HC HX
      by_cases h1 : n < t
      · have d1 : decide ((n : Int) < (t : Int)) = true := decide_eq_true (by omega)
        have dN : decide (n < t) = true := decide_eq_true h1
        obtain ⟨D, hD⟩ : ∃ D : Nat, D = t - n := ⟨_, rfl⟩
        have e1 : (t : Int) - (n : Int) = (D : Int) := by omega
        have e2 : IntKind.u64.wrap ((t : Int) - (n : Int)) = (D : Int) := by rw [e1, IntKind.wrap_u64]; omega
        rw [← hD] at HRt
        clear e1 hD
        by_cases h3 : 128 ≤ D
        · have d2 : decide ((128 : Int) ≤ (D : Int)) = true := decide_eq_true (by omega)
          have HF : Hid (R = 43) := (by rw [HRt.out, if_pos ⟨h1, h3⟩] : R = 43)
          go_wp2
          go_ret
          exact ⟨retI HF.out.symm, rfl⟩
        · have d2 : decide ((128 : Int) ≤ (D : Int)) = false := decide_eq_false (by omega)
          have HF : Hid (R = 0) := (by rw [HRt.out, if_neg (fun h => h3 h.2)] : R = 0)
          go_wp2
          go_ret
          exact ⟨retI HF.out.symm, rfl⟩
      · have d1 : decide ((n : Int) < (t : Int)) = false := decide_eq_false (by omega)
        have dN : decide (n < t) = false := decide_eq_false h1
        have HF : Hid (R = 0) := (by rw [HRt.out, if_neg (fun h => h1 h.1)] : R = 0)
        go_wp2
        go_ret
        exact ⟨retI HF.out.symm, rfl⟩
theorem infoU20 : (Tryd.prog.info? 22).map (fun i => (i.zero, i.size, i.bytes)) = some (some (.int .u64 0), 1, 8) := by kernel_rfl

set_option maxRecDepth 100000 in
set_option maxHeartbeats 2000000 in
theorem mark20_any (v : Value) (l : List Nat) (hl : ∀ x ∈ l, x < 18446744073709551616) (hlen : l.length ≤ 1000000) (n : Nat) (hn64 : n < 18446744073709551616) (w : World) (hr : RdI .u64 w v (nU l)) :
    Calls Tryd.prog 37 #[v, .int .u64 (n : Int)] w fun e w' => ∃ v', e = .returned (.tuple #[v', .int .i64 (mkL l n).2]) ∧ RdI .u64 w' v' (nU (mkL l n).1) ∧ Below w.heap.size w w' := by
  have hC := check20_any v l hl n hn64 w hr
  have hway := cmE_ways l n
  have HM : Hid (mkL l n = if cmE l n = 0 then (l ++ [n], 0) else (l, cmE l n)) := rfl
  obtain ⟨a, c, rfl, h2, h3, -, -⟩ := id hr
  have HR : Hid (RdI .u64 w (.slice a (nU l).length c) (nU l)) := hr
  have HLe : Hid ((nU l).length ≤ 1000000) := by show _ ≤ _; rw [nU_length]; exact hlen
  obtain ⟨R, hR⟩ : ∃ R, R = cmE l n := ⟨_, rfl⟩
  obtain ⟨G, hG⟩ : ∃ G, G = mkL l n := ⟨_, rfl⟩
  rw [← hR] at HM hC
  have HC : Hid (Calls Tryd.prog 35 #[.slice a (nU l).length c, .int .u64 (n : Int)] w fun e w' => e = .returned (.int .i64 R) ∧ w' = w) := hC
  rw [← hG] at HM ⊢
  have hway2 : R = 43 ∨ R = 0 := by rw [hR]; rcases hway with ⟨h, -⟩ | ⟨h, -⟩ <;> simp [h]
  clear hr hl hway hR hG h2 h3 hlen hC
  go_enter Tryd.func37, Tryd.ntmps37
  go_wp2_with fail
  refine HC.out.mono ?_
  rintro e w1 ⟨rfl, rfl⟩
  rcases hway2 with rfl | rfl
  · have hG : G = (l, 43) := HM.out
    subst hG
    go_wp2
    go_ret2
    exact ⟨_, rfl, HR.out, Below.refl _ _⟩
  · have hG : G = (l ++ [n], 0) := HM.out
    subst hG
    clear HM
    go_wp2_with (at_builtin; go_must (refine wpList_append_newI (k := .u64) (w := w1) rfl _ _ 25 rfl 22 Tryd.underlying25 8 infoU20 _ [] rfl (NewI.start _) _ _ rfl HR.out (by have := HLe.out; simp; omega) (by have := HLe.out; simp; omega) ?_))
    intro v2 w2 hN2 _
    have HN2 : Hid (NewI .u64 22 w1 v2 (nU l) w2) := hN2
    clear hN2
    obtain ⟨a2, c2, rfl, -⟩ := id HN2.out.rd
    have hlit : RdI .u64 (w2.alloc (.cells #[.int .u64 (n : Int)] 22)) (.slice (some ⟨w2.heap.size, 0, none⟩) 1 1) [(n : Int)] := (NewI.lit (k := .u64) (w := w2) (e := 22) [(n : Int)] rfl rfl rfl (by simp [maxLen])).rd
    have HLit : Hid _ := hlit
    clear hlit
    go_wp2_with (at_builtin; go_must (refine wpList_append_newI (k := .u64) (w := w1) rfl _ _ 25 rfl 22 Tryd.underlying25 8 infoU20 _ _ rfl (HN2.out.alloc _) _ _ rfl HLit.out (by have := HLe.out; simp; omega) (by have := HLe.out; simp; omega) ?_))
    intro v3 w3 hN3 _
    rw [← nU_snoc] at hN3
    have HN3 : Hid (NewI .u64 22 w1 v3 (nU (l ++ [n])) w3) := hN3
    clear hN3 HN2
    obtain ⟨a3, c3, rfl, -⟩ := id HN3.out.rd
    go_wp2
    go_ret2
    exact ⟨_, rfl, HN3.out.rd, HN3.out.2⟩
set_option maxRecDepth 100000 in
set_option maxHeartbeats 2000000 in
theorem mark20_new (v : Value) (l : List Nat) (hl : ∀ x ∈ l, x < 18446744073709551616) (hlen : l.length ≤ 1000000) (n : Nat) (hn64 : n < 18446744073709551616) (hok : cmE l n = 0) (w : World) (hr : RdI .u64 w v (nU l)) :
    Calls Tryd.prog 37 #[v, .int .u64 (n : Int)] w fun e w' => ∃ v', e = .returned (.tuple #[v', .int .i64 0]) ∧ NewI .u64 22 w v' (nU (l ++ [n])) w' := by
  have hC := check20_any v l hl n hn64 w hr
  rw [hok] at hC
  obtain ⟨a, c, rfl, h2, h3, -, -⟩ := id hr
  have HR : Hid (RdI .u64 w (.slice a (nU l).length c) (nU l)) := hr
  have HLe : Hid ((nU l).length ≤ 1000000) := by show _ ≤ _; rw [nU_length]; exact hlen
  have HC : Hid (Calls Tryd.prog 35 #[.slice a (nU l).length c, .int .u64 (n : Int)] w fun e w' => e = .returned (.int .i64 0) ∧ w' = w) := hC
  clear hr hl h2 h3 hlen hC hok
  go_enter Tryd.func37, Tryd.ntmps37
  go_wp2_with fail
  refine HC.out.mono ?_
  rintro e w1 ⟨rfl, rfl⟩
  go_wp2_with (at_builtin; go_must (refine wpList_append_newI (k := .u64) (w := w1) rfl _ _ 25 rfl 22 Tryd.underlying25 8 infoU20 _ [] rfl (NewI.start _) _ _ rfl HR.out (by have := HLe.out; simp; omega) (by have := HLe.out; simp; omega) ?_))
  intro v2 w2 hN2 _
  have HN2 : Hid (NewI .u64 22 w1 v2 (nU l) w2) := hN2
  clear hN2
  obtain ⟨a2, c2, rfl, -⟩ := id HN2.out.rd
  have hlit : RdI .u64 (w2.alloc (.cells #[.int .u64 (n : Int)] 22)) (.slice (some ⟨w2.heap.size, 0, none⟩) 1 1) [(n : Int)] := (NewI.lit (k := .u64) (w := w2) (e := 22) [(n : Int)] rfl rfl rfl (by simp [maxLen])).rd
  have HLit : Hid _ := hlit
  clear hlit
  go_wp2_with (at_builtin; go_must (refine wpList_append_newI (k := .u64) (w := w1) rfl _ _ 25 rfl 22 Tryd.underlying25 8 infoU20 _ _ rfl (HN2.out.alloc _) _ _ rfl HLit.out (by have := HLe.out; simp; omega) (by have := HLe.out; simp; omega) ?_))
  intro v3 w3 hN3 _
  rw [← nU_snoc] at hN3
  have HN3 : Hid (NewI .u64 22 w1 v3 (nU (l ++ [n])) w3) := hN3
  clear hN3 HN2
  obtain ⟨a3, c3, rfl, -⟩ := id HN3.out.rd
  go_wp2
  go_ret2
  exact ⟨_, rfl, HN3.out⟩
end Go.Proofs.YtliiofjcghdjoaaDoor

/- Nonces, and what a cipher seals: contracts of the reference of layer 16, first part. -/
namespace Go.Proofs.YtliiofjcghdjoaaDoor
open Go.ChangeShapes Go.WideShapes Go.ChangeAt Go.RowKit
set_option linter.unusedSimpArgs false
set_option linter.unusedVariables false

/-- Bytes are made in a region whose order is open. -/
theorem wp_make_new {P : Program} {e : TypeId} {w : World} {o : Oper} {a : Act} {K : Act → World → Prop} {Q : Exit → Act → World → Prop} (l c : Operand) (t : TypeId) (ho : o.op = .makeSlice t l c) (hu : P.underlying t = some (.slice e))
    (hinfo : (P.info? e).map (fun i => (i.zero, i.size, i.bytes)) = some (some (.int .u8 0), 1, 1)) (n : Nat) (hl : a.eval l = .int .i64 (n : Int)) (hc : a.eval c = .int .i64 (n : Int)) (hn : n ≤ 1000000)
    (h : ∀ w', New e w (.slice (some ⟨w.heap.size, 0, none⟩) n n) (List.replicate n 0) w' → K (a.put o.dst (.slice (some ⟨w.heap.size, 0, none⟩) n n)) w') : o.wp P a w K Q := by
  obtain ⟨i, hi, hz0, hz1, hz2⟩ := info_parts hinfo
  obtain ⟨w', hrun, r1, r2⟩ := run_make_full (P := P) w w.heap.size t e i _ 1 hu hi hz0 hz1 .i64 .i64 n (by rw [hz2]; omega) (by unfold maxLen; omega) (Nat.le_refl _)
  unfold Oper.wp
  simp [execOp, ho, hl, hc, hrun, Result.andThen]
  rw [Nat.mul_one] at r1
  exact h w' (New.made r1 r2)

set_option maxRecDepth 100000 in
set_option maxHeartbeats 2000000 in
theorem nonce16_any (x : Nat) (hx : x < 18446744073709551616) (w : World) : Calls Tryd.prog 41 #[.int .u64 (x : Int)] w fun e w' => ∃ v, e = .returned v ∧ New 5 w v (ncL x) w' := by
  have HX : Hid _ := hx
  have HL : Hid ((List.replicate 4 (0 : UInt8)).length + (st8 x).length ≤ 140737488355328) := by show _ ≤ _; rw [List.length_replicate, st8_length]; omega
  clear hx
  go_enter Tryd.func41, Tryd.ntmps41
  go_wp2_with fail
  have hB : Below w.heap.size w w.drew := (Below.refl _ _).drew
  refine wpB_begin (Below.refl w.heap.size w) (by kernel_rfl) ?_
  refine bU_ hB 1 rfl ⟨_, by intro W hW; go_simp <;> with_reducible rfl, ?_⟩
  try simp only [Act.put, pA_, pB_, pC_]
  refine bF_ 0 2 (fun K hK => ?_) (fun K hK => ?_)
  · refine wp_make_new _ _ 40 rfl Tryd.underlying40 infoU8 4 rfl rfl (by decide) ?_
    intro wm hNm
    have hM := hNm.rd
    replace hB := stepB hB hNm.2
    try replace hS := Rd.kept hS hNm.2
    refine hK.out _ _ hB ?_
    clear hK K
    try simp only [Act.put, pA_, pB_, pC_]
    refine bD_ 2 fun K hK => ?_
    go_simp
    refine (refstore_k x HX.out 8 8 (by decide) (.inr (.inl ⟨by decide, by decide, rfl⟩)) _).mono ?_
    rintro e ws ⟨vs, rfl, hNs⟩
    have hS : Rd ws vs (st8 x) := hNs.rd
    replace hB := stepB hB hNs.2
    try replace hM := Rd.kept hM hNs.2
    refine hK.out _ _ hB ?_
    clear hK K
    try simp only [Act.put, pA_, pB_, pC_]
    refine bD_ 3 fun K hK => ?_
    go_simp
    refine (joinR_any _ _ (List.replicate 4 0) (st8 x) HL.out _ hM hS).mono ?_
    rintro e wj ⟨vj, rfl, hNj⟩
    have HJ : Hid (New 5 w vj (ncL x) wj) := hNj.from hB
    replace hB := stepB hB hNj.2
    refine hK.out _ _ hB ?_
    clear hK K
    try simp only [Act.put, pA_, pB_, pC_]
    refine bU_ hB 4 rfl ⟨_, by intro W hW; go_simp <;> with_reducible rfl, ?_⟩
    try simp only [Act.put, pA_, pB_, pC_]
    refine wpB_done (by kernel_rfl) ?_
    go_wp2
    go_ret
    exact ⟨vj, rfl, HJ.out⟩
  · go_simp
    refine (refstore_k x HX.out 8 8 (by decide) (.inr (.inl ⟨by decide, by decide, rfl⟩)) _).mono ?_
    rintro e ws ⟨vs, rfl, hNs⟩
    have hS : Rd ws vs (st8 x) := hNs.rd
    replace hB := stepB hB hNs.2
    try replace hM := Rd.kept hM hNs.2
    refine hK.out _ _ hB ?_
    clear hK K
    try simp only [Act.put, pA_, pB_, pC_]
    refine bD_ 0 fun K hK => ?_
    refine wp_make_new _ _ 40 rfl Tryd.underlying40 infoU8 4 rfl rfl (by decide) ?_
    intro wm hNm
    have hM := hNm.rd
    replace hB := stepB hB hNm.2
    try replace hS := Rd.kept hS hNm.2
    refine hK.out _ _ hB ?_
    clear hK K
    try simp only [Act.put, pA_, pB_, pC_]
    refine bD_ 3 fun K hK => ?_
    go_simp
    refine (joinR_any _ _ (List.replicate 4 0) (st8 x) HL.out _ hM hS).mono ?_
    rintro e wj ⟨vj, rfl, hNj⟩
    have HJ : Hid (New 5 w vj (ncL x) wj) := hNj.from hB
    replace hB := stepB hB hNj.2
    refine hK.out _ _ hB ?_
    clear hK K
    try simp only [Act.put, pA_, pB_, pC_]
    refine bU_ hB 4 rfl ⟨_, by intro W hW; go_simp <;> with_reducible rfl, ?_⟩
    try simp only [Act.put, pA_, pB_, pC_]
    refine wpB_done (by kernel_rfl) ?_
    go_wp2
    go_ret
    exact ⟨vj, rfl, HJ.out⟩

/-- A cipher's cells. -/
def ciC (vk : Value) (n : Nat) : List Value := [vk, .int .u64 (n : Int)]
theorem alloc_ci (w : World) : (Instr.alloc 48 true (.tuple #[])).run Tryd.prog w = .ok (.pointer (some ⟨w.heap.size, 0, none⟩)) (w.alloc (.cells (ciC (.slice none 0 0) 0).toArray 48)) := by kernel_rfl
theorem info_ci (vk : Value) (n : Nat) : (Tryd.prog.info? 48).map (·.size) = some (ciC vk n).length := by
  show _ = some 2
  kernel_rfl
theorem ciC_all (a : Option Addr) (l c n : Nat) : (ciC (.slice a l c) n).toArray.all (·.oneCell') = true := by kernel_rfl
theorem build_ci (a : Option Addr) (l c : Nat) (x : Int) (w : World) : (Instr.build 48 #[(0, .slice a l c), (1, .int .u64 x)]).run Tryd.prog w = .ok (.agg #[.slice a l c, .int .u64 x]) w := by kernel_rfl
theorem whole16 (l : List Value) : l = [] ++ l ++ [] := by simp
theorem cell16 {w W : World} {p : Addr} {v : Value} (h : w.cell? p = some v) (hb : Below w.drew.heap.size w.drew W) : W.cell? p = some v := by
  have h2 : w.drew.cell? p = some v := h
  rw [hb.cell (World.block_lt_of_cell? _ _ h2)]
  exact h2
theorem bodyPost_blk3 {P : Program} {fn : Func} {p q r : Tmp} {ty bt : TypeId} {g : Nat} {cs : List Value} {d : TypeDesc} {v u : Value} {R : Ending → World → Prop} {a : Act} {w : World} (h : fn.results = #[.cell p ty, .tmp q, .tmp r]) (hd : a.defers = [])
    (hp : a.tmps.getD p undef = .pointer (some ⟨g, 0, none⟩)) (hq : a.tmps.getD q undef = v) (hr : a.tmps.getD r undef = u) (hb : BlkAt g bt cs w) (hu : P.underlying ty = some d) (hrow : d.isRow = true) (hi : (P.info? ty).map (·.size) = some cs.length)
    (hR : R (.returned (.tuple #[.agg cs.toArray, v, u])) w) : bodyPost P fn R .ret a w := by
  refine bodyPost_ret ?_ hd hR
  have hp' : a.tmps[p]?.getD undef = .pointer (some ⟨g, 0, none⟩) := by simpa using hp
  have hq' : a.tmps[q]?.getD undef = v := by simpa using hq
  have hr' : a.tmps[r]?.getD undef = u := by simpa using hr
  have hb' : BlkAt g bt (([] : List Value) ++ cs ++ []) w := by simpa using hb
  have hl := run_loadVar_mid (P := P) w g 0 ty cs d hb'.range hu hrow hi
  simp [results, h, hp', hq', hr', asAddr, hl]
theorem seC_cases (c : Cph) (ad t : List UInt8) : (c.key.length = 0 ∧ seC c ad t = (c, t, 0)) ∨ (c.key.length ≠ 0 ∧ c.key.length ≠ 32 ∧ seC c ad t = (c, [], 1)) ∨ (c.key.length = 32 ∧ c.n = 18446744073709551615 ∧ seC c ad t = (c, [], 31)) ∨ (c.key.length = 32 ∧ c.n ≠ 18446744073709551615 ∧ seC c ad t = (⟨c.key, c.n + 1⟩, seL c.key (ncL c.n) ad t, 0)) := by
  unfold seC
  by_cases h0 : c.key.length = 0
  · exact .inl ⟨h0, if_pos h0⟩
  · by_cases h1 : c.key.length = 32
    · by_cases h2 : c.n = 18446744073709551615
      · exact .inr (.inr (.inl ⟨h1, h2, by rw [if_neg h0, if_neg (by omega), if_pos h2]⟩))
      · exact .inr (.inr (.inr ⟨h1, h2, by rw [if_neg h0, if_neg (by omega), if_neg h2]⟩))
    · exact .inr (.inl ⟨h0, h1, by rw [if_neg h0, if_pos h1]⟩)

theorem seC_key (c : Cph) (ad t : List UInt8) : (seC c ad t).1.key = c.key := by
  rcases seC_cases c ad t with ⟨-, h⟩ | ⟨-, -, h⟩ | ⟨-, -, h⟩ | ⟨-, -, h⟩ <;> rw [h]

set_option maxRecDepth 100000 in
set_option maxHeartbeats 4000000 in
theorem seal16_any (c : Cph) (vk va vt : Value) (ad t : List UInt8) (A : Array Value) (hA : A = (ciC vk c.n).toArray) (hn : c.n < 18446744073709551616) (hla : ad.length ≤ 3000000) (hlt : t.length ≤ 3000000) (w : World) (hk : Rd w vk c.key) (ha : Rd w va ad) (ht : Rd w vt t) :
    Calls Tryd.prog 30 #[.agg A, va, vt] w fun e w' => ∃ x, e = .returned (.tuple #[.agg (ciC vk (seC c ad t).1.n).toArray, x, .int .i64 (seC c ad t).2.2]) ∧ Rd w' x (seC c ad t).2.1 ∧ Below w.heap.size w w' := by
  have hcase := seC_cases c ad t
  obtain ⟨key, n⟩ := c
  obtain ⟨ak, ck, rfl, hk2, hk3, -, -⟩ := id hk
  unfold maxLen at hk3
  have HK : Hid (Rd w (.slice ak key.length ck) key) := hk
  have HA : Hid (Rd w va ad) := ha
  have HT : Hid (Rd w vt t) := ht
  have HLa : Hid _ := hla
  have HLt : Hid _ := hlt
  have hnI : (n : Int) < 18446744073709551616 := by have : n < 18446744073709551616 := hn; omega
  generalize seC ⟨key, n⟩ ad t = R at hcase ⊢
  replace hA : A = (ciC (.slice ak key.length ck) n).toArray := hA
  have HN : Hid (n < 18446744073709551616) := hn
  clear hk ha ht hla hlt hn
  go_enter Tryd.func30, Tryd.ntmps30
  go_wp2_with (refine wpList_box_blk rfl 48 _ rfl (ciC (.slice ak key.length ck) n) (by rw [← hA]; rfl) ?_)
  intro w1 r1 b1 s1
  go_wp2_with (refine wpList_alloc_blk rfl 48 rfl (ciC (.slice none 0 0) 0) (alloc_ci _) ?_)
  intro w2 rz b2 s2
  replace r1 := r1.kept b2
  have hbw := stepB b1 b2
  have n1 : w.heap.size < w1.heap.size := by have := s1.out; omega
  have c0 : w2.cell? ⟨w.heap.size, 0, none⟩ = some (.slice ak key.length ck) := r1.cell 0
  have c1 : w2.cell? ⟨w.heap.size, 1, none⟩ = some (.int .u64 (n : Int)) := r1.cell 1
  have z1 := b1.size
  clear b1 b2 s1 s2 hA
  rcases hcase with ⟨h1, rfl⟩ | ⟨h1, h2, rfl⟩ | ⟨h1, h2, rfl⟩ | ⟨h1, h2, rfl⟩
  · have e1 : ((key.length : Int) == 0) = true := by rw [show key.length = 0 from h1]; rfl
    clear h1
    go_wp2_with (first | refine wpList_load_part rfl 48 _ rfl rfl [] (ciC (.slice ak key.length ck) n) [] r1 (whole16 _) rfl Tryd.underlying48 rfl (info_ci _ _) ?_ | (refine wpList_store_part rfl 48 _ _ rfl rfl (ciC (.slice ak key.length ck) n) rfl [] (ciC (.slice none 0 0) 0) [] (ciC (.slice ak key.length ck) n) rz (whole16 _) (whole16 _) rfl rfl (info_ci (.slice none 0 0) 0) (ciC_all _ _ _ _) ?_; intro w7 r7 hw7))
    refine bodyPost_blk3 rfl rfl rfl rfl rfl r7 Tryd.underlying48 rfl (info_ci _ _) ?_
    exact ⟨_, rfl, Rd.kept HT.out (hw7.below _ _ z1 hbw), hw7.below _ _ z1 hbw⟩
  · have h1' : key.length ≠ 0 := h1
    have h2' : key.length ≠ 32 := h2
    have e1 : ((key.length : Int) == 0) = false := by rw [beq_eq_false_iff_ne]; omega
    have e2 : ((key.length : Int) != 32) = true := by simp; omega
    clear h1 h2 h1' h2'
    go_wp2_with (first | refine wpList_load_part rfl 48 _ rfl rfl [] (ciC (.slice ak key.length ck) n) [] r1 (whole16 _) rfl Tryd.underlying48 rfl (info_ci _ _) ?_ | (refine wpList_store_part rfl 48 _ _ rfl rfl (ciC (.slice ak key.length ck) n) rfl [] (ciC (.slice none 0 0) 0) [] (ciC (.slice ak key.length ck) n) rz (whole16 _) (whole16 _) rfl rfl (info_ci (.slice none 0 0) 0) (ciC_all _ _ _ _) ?_; intro w7 r7 hw7))
    refine bodyPost_blk3 rfl rfl rfl rfl rfl r7 Tryd.underlying48 rfl (info_ci _ _) ?_
    exact ⟨_, rfl, Rd.nil _, hw7.below _ _ z1 hbw⟩
  · have h1' : key.length = 32 := h1
    have h2' : n = 18446744073709551615 := h2
    have e1 : ((key.length : Int) == 0) = false := by rw [beq_eq_false_iff_ne]; omega
    have e2 : ((key.length : Int) != 32) = false := by simp; omega
    have e3 : ((n : Int) == 18446744073709551615) = true := by simp; omega
    clear h1 h2 h1' h2'
    go_wp2_with (first | refine wpList_load_part rfl 48 _ rfl rfl [] (ciC (.slice ak key.length ck) n) [] r1 (whole16 _) rfl Tryd.underlying48 rfl (info_ci _ _) ?_ | (refine wpList_store_part rfl 48 _ _ rfl rfl (ciC (.slice ak key.length ck) n) rfl [] (ciC (.slice none 0 0) 0) [] (ciC (.slice ak key.length ck) n) rz (whole16 _) (whole16 _) rfl rfl (info_ci (.slice none 0 0) 0) (ciC_all _ _ _ _) ?_; intro w7 r7 hw7))
    refine bodyPost_blk3 rfl rfl rfl rfl rfl r7 Tryd.underlying48 rfl (info_ci _ _) ?_
    exact ⟨_, rfl, Rd.nil _, hw7.below _ _ z1 hbw⟩
  · have h1' : key.length = 32 := h1
    have h2' : n ≠ 18446744073709551615 := h2
    have e1 : ((key.length : Int) == 0) = false := by rw [beq_eq_false_iff_ne]; omega
    have e2 : ((key.length : Int) != 32) = false := by simp; omega
    have e3 : ((n : Int) == 18446744073709551615) = false := by simp; omega
    have HK32 : Hid (key.length = 32) := h1'
    obtain ⟨m, hm⟩ : ∃ m : Nat, m = n + 1 := ⟨_, rfl⟩
    have HMm : Hid (m = n + 1) := hm
    have e4 : IntKind.u64.wrap ((n : Int) + 1) = (m : Int) := by rw [IntKind.wrap_u64]; have := HN.out; omega
    have e5 : ((n : Int) + 1) % 18446744073709551616 = (m : Int) := by have := HN.out; omega
    have hbd := hbw.drew
    clear h1 h2 h1' h2' hm
    go_wp2_with fail
    refine wpG_begin (by kernel_rfl) ?_
    refine gU_ 0 rfl ⟨_, by intro W hW; go_simp <;> with_reducible rfl, ?_⟩
    try simp only [Act.put, pA_, pB_, pC_]
    refine gU_ 1 rfl ⟨_, by intro W hW; have hcW := cell16 c0 hW; go_simp <;> with_reducible rfl, ?_⟩
    try simp only [Act.put, pA_, pB_, pC_]
    refine gU_ 2 rfl ⟨_, by intro W hW; go_simp <;> with_reducible rfl, ?_⟩
    try simp only [Act.put, pA_, pB_, pC_]
    refine gU_ 3 rfl ⟨_, by intro W hW; have hcW := cell16 c1 hW; go_simp <;> with_reducible rfl, ?_⟩
    try simp only [Act.put, pA_, pB_, pC_]
    refine gU_ 5 rfl ⟨_, by intro W hW; go_simp <;> with_reducible rfl, ?_⟩
    try simp only [Act.put, pA_, pB_, pC_]
    refine gU_ 6 rfl ⟨_, by intro W hW; go_simp <;> with_reducible rfl, ?_⟩
    try simp only [Act.put, pA_, pB_, pC_]
    refine gD_ 4 fun K hK => ?_
    go_simp
    refine (nonce16_any n HN.out _).mono ?_
    rintro e w3 ⟨v3, rfl, hN3⟩
    obtain ⟨a3, k3, rfl, -⟩ := id hN3.rd
    refine hK.out _ _ hN3.2 ?_
    clear hK K
    try simp only [Act.put, pA_, pB_, pC_]
    refine gD_ 7 fun K hK => ?_
    go_simp
    refine (sealR_any _ _ _ _ key (ncL n) ad t HK32.out (ncL_length n) HLa.out HLt.out _ (Rd.kept HK.out (stepB hbd hN3.2)) hN3.rd (Rd.kept HA.out (stepB hbd hN3.2)) (Rd.kept HT.out (stepB hbd hN3.2))).mono ?_
    rintro e w4 ⟨v4, rfl, hN4⟩
    refine hK.out _ _ hN4.2 ?_
    clear hK K
    try simp only [Act.put, pA_, pB_, pC_]
    refine gU_ 8 rfl ⟨_, by intro W hW; go_simp <;> with_reducible rfl, ?_⟩
    try simp only [Act.put, pA_, pB_, pC_]
    refine gU_ 9 rfl ⟨_, by intro W hW; go_simp <;> with_reducible rfl, ?_⟩
    try simp only [Act.put, pA_, pB_, pC_]
    refine gU_ 10 rfl ⟨_, by intro W hW; go_simp <;> with_reducible rfl, ?_⟩
    try simp only [Act.put, pA_, pB_, pC_]
    refine gU_ 11 rfl ⟨_, by intro W hW; go_simp <;> with_reducible rfl, ?_⟩
    try simp only [Act.put, pA_, pB_, pC_]
    refine gU_ 12 rfl ⟨_, by intro W hW; go_simp <;> with_reducible rfl, ?_⟩
    try simp only [Act.put, pA_, pB_, pC_]
    refine wpG_done (by kernel_rfl) ?_
    have b4 := stepB hN3.2 hN4.2
    have r4 := (r1.drew.kept b4)
    have rz4 := (rz.drew.kept b4)
    have c0' : w4.cell? ⟨w.heap.size, 0, none⟩ = some (.slice ak key.length ck) := r4.cell 0
    have c1' : w4.cell? ⟨w.heap.size, 1, none⟩ = some (.int .u64 (n : Int)) := r4.cell 1
    have HX : Hid (w4.ownsRow w3.heap.size 5 1 v4 (seL key (ncL n) ad t).length ((seL key (ncL n) ad t).map bv)) := hN4.1
    have HZ3 : Hid (w1.heap.size < w3.heap.size) := Nat.lt_of_lt_of_le rz.lt hN3.2.size
    have HB4 : Hid _ := stepB hbd b4
    clear hN3 hN4 b4 c0 c1 r1 rz
    go_wp2_with (first | refine wpList_buildB rfl 48 #[(0, .tmp 38), (1, .tmp 41)] rfl _ (by go_simp; rfl) _ (build_ci _ _ _ _ _) ?_ | (refine wpList_store_part rfl 48 _ _ rfl rfl (ciC (.slice ak key.length ck) m) rfl [] (ciC (.slice none 0 0) 0) [] (ciC (.slice ak key.length ck) m) rz4 (whole16 _) (whole16 _) rfl rfl (info_ci (.slice none 0 0) 0) (ciC_all _ _ _ _) ?_; intro w7 r7 hw7))
    refine bodyPost_blk3 rfl rfl rfl rfl rfl r7 Tryd.underlying48 rfl (info_ci _ _) ?_
    refine ⟨_, by rw [HMm.out]; rfl, ?_, hw7.below _ _ z1 HB4.out⟩
    exact Rd.of_row (own_chg HX.out (Chg.of_wrote hw7) (fun g e1 e2 => by have := (HX.out.lt g e1).1; have := HZ3.out; omega))
end Go.Proofs.YtliiofjcghdjoaaDoor

/- What a cipher opens: contracts of the reference of layer 16, second part. -/
namespace Go.Proofs.YtliiofjcghdjoaaDoor
open Go.ChangeShapes Go.WideShapes Go.ChangeAt Go.RowKit
set_option linter.unusedSimpArgs false
set_option linter.unusedVariables false

theorem openR_q (vk vn va vb : Value) (k n a s : List UInt8) (hk32 : k.length = 32) (hn12 : n.length = 12) (hla : a.length ≤ 3000000) (hls : s.length ≤ 3000000) (w : World) (hk : Rd w vk k) (hn : Rd w vn n) (ha : Rd w va a) (hb : Rd w vb s) :
    Calls Tryd.prog 46 #[vk, vn, va, vb] w fun e w' => ∃ r, e = .returned (.tuple #[r, .int .i64 (opQ k n a s).2]) ∧ New 5 w r (opQ k n a s).1 w' := by
  unfold opQ
  by_cases h16 : s.length < 16
  · rw [if_pos h16]
    refine (openR_short vk vn va vb k n s hk32 hn12 h16 w hk hn hb).mono ?_
    rintro e w' ⟨rfl, rfl⟩
    exact ⟨_, rfl, World.ownsRow_nil _ _ _ _, Below.refl _ _⟩
  · rw [if_neg h16]
    have e1 : s.take (s.length - 16) ++ s.drop (s.length - 16) = s := List.take_append_drop ..
    have l1 : (s.take (s.length - 16)).length ≤ 3000000 := by rw [List.length_take]; omega
    have l2 : (s.drop (s.length - 16)).length = 16 := by rw [List.length_drop]; omega
    generalize s.take (s.length - 16) = c at e1 l1
    generalize s.drop (s.length - 16) = t at e1 l2
    subst e1
    refine (openR_any vk vn va vb k n a c t hk32 hn12 hla l1 l2 w hk hn ha hb).mono ?_
    rintro e w' ⟨h1, h2⟩
    by_cases ht : tgL k n a c = t
    · rw [if_pos ht]
      exact h1 ht
    · rw [if_neg ht]
      obtain ⟨rfl, hb⟩ := h2 ht
      exact ⟨_, rfl, World.ownsRow_nil _ _ _ _, hb⟩
theorem opC_cases (c : Cph) (ad t : List UInt8) : (c.key.length = 0 ∧ opC c ad t = (c, t, 0)) ∨ (c.key.length ≠ 0 ∧ c.key.length ≠ 32 ∧ opC c ad t = (c, [], 1)) ∨ (c.key.length = 32 ∧ c.n = 18446744073709551615 ∧ opC c ad t = (c, [], 31)) ∨ (c.key.length = 32 ∧ c.n ≠ 18446744073709551615 ∧ opC c ad t = if (opQ c.key (ncL c.n) ad t).2 = 0 then (⟨c.key, c.n + 1⟩, (opQ c.key (ncL c.n) ad t).1, 0) else (c, [], (opQ c.key (ncL c.n) ad t).2)) := by
  unfold opC
  by_cases h0 : c.key.length = 0
  · exact .inl ⟨h0, if_pos h0⟩
  · by_cases h1 : c.key.length = 32
    · by_cases h2 : c.n = 18446744073709551615
      · exact .inr (.inr (.inl ⟨h1, h2, by rw [if_neg h0, if_neg (by omega), if_pos h2]⟩))
      · exact .inr (.inr (.inr ⟨h1, h2, by rw [if_neg h0, if_neg (by omega), if_neg h2]⟩))
    · exact .inr (.inl ⟨h0, h1, by rw [if_neg h0, if_pos h1]⟩)

theorem opC_key (c : Cph) (ad t : List UInt8) : (opC c ad t).1.key = c.key := by
  rcases opC_cases c ad t with ⟨-, h⟩ | ⟨-, -, h⟩ | ⟨-, -, h⟩ | ⟨-, -, h⟩ <;> rw [h]
  split <;> rfl

set_option maxRecDepth 100000 in
set_option maxHeartbeats 4000000 in
theorem open16_any (c : Cph) (vk va vt : Value) (ad t : List UInt8) (A : Array Value) (hA : A = (ciC vk c.n).toArray) (hn : c.n < 18446744073709551616) (hla : ad.length ≤ 3000000) (hlt : t.length ≤ 3000000) (w : World) (hk : Rd w vk c.key) (ha : Rd w va ad) (ht : Rd w vt t) :
    Calls Tryd.prog 36 #[.agg A, va, vt] w fun e w' => ∃ x, e = .returned (.tuple #[.agg (ciC vk (opC c ad t).1.n).toArray, x, .int .i64 (opC c ad t).2.2]) ∧ Rd w' x (opC c ad t).2.1 ∧ Below w.heap.size w w' := by
  have hcase := opC_cases c ad t
  obtain ⟨key, n⟩ := c
  obtain ⟨ak, ck, rfl, hk2, hk3, -, -⟩ := id hk
  unfold maxLen at hk3
  have HK : Hid (Rd w (.slice ak key.length ck) key) := hk
  have HA : Hid (Rd w va ad) := ha
  have HT : Hid (Rd w vt t) := ht
  have HLa : Hid _ := hla
  have HLt : Hid _ := hlt
  have hnI : (n : Int) < 18446744073709551616 := by have : n < 18446744073709551616 := hn; omega
  generalize opC ⟨key, n⟩ ad t = R at hcase ⊢
  replace hA : A = (ciC (.slice ak key.length ck) n).toArray := hA
  have HN : Hid (n < 18446744073709551616) := hn
  clear hk ha ht hla hlt hn
  go_enter Tryd.func36, Tryd.ntmps36
  go_wp2_with (refine wpList_box_blk rfl 48 _ rfl (ciC (.slice ak key.length ck) n) (by rw [← hA]; rfl) ?_)
  intro w1 r1 b1 s1
  go_wp2_with (refine wpList_alloc_blk rfl 48 rfl (ciC (.slice none 0 0) 0) (alloc_ci _) ?_)
  intro w2 rz b2 s2
  replace r1 := r1.kept b2
  have hbw := stepB b1 b2
  have n1 : w.heap.size < w1.heap.size := by have := s1.out; omega
  have c0 : w2.cell? ⟨w.heap.size, 0, none⟩ = some (.slice ak key.length ck) := r1.cell 0
  have c1 : w2.cell? ⟨w.heap.size, 1, none⟩ = some (.int .u64 (n : Int)) := r1.cell 1
  have z1 := b1.size
  clear b1 b2 s1 s2 hA
  rcases hcase with ⟨h1, rfl⟩ | ⟨h1, h2, rfl⟩ | ⟨h1, h2, rfl⟩ | ⟨h1, h2, h3⟩
  · have e1 : ((key.length : Int) == 0) = true := by rw [show key.length = 0 from h1]; rfl
    clear h1
    go_wp2_with (first | refine wpList_load_part rfl 48 _ rfl rfl [] (ciC (.slice ak key.length ck) n) [] r1 (whole16 _) rfl Tryd.underlying48 rfl (info_ci _ _) ?_ | (refine wpList_store_part rfl 48 _ _ rfl rfl (ciC (.slice ak key.length ck) n) rfl [] (ciC (.slice none 0 0) 0) [] (ciC (.slice ak key.length ck) n) rz (whole16 _) (whole16 _) rfl rfl (info_ci (.slice none 0 0) 0) (ciC_all _ _ _ _) ?_; intro w7 r7 hw7))
    refine bodyPost_blk3 rfl rfl rfl rfl rfl r7 Tryd.underlying48 rfl (info_ci _ _) ?_
    exact ⟨_, rfl, Rd.kept HT.out (hw7.below _ _ z1 hbw), hw7.below _ _ z1 hbw⟩
  · have h1' : key.length ≠ 0 := h1
    have h2' : key.length ≠ 32 := h2
    have e1 : ((key.length : Int) == 0) = false := by rw [beq_eq_false_iff_ne]; omega
    have e2 : ((key.length : Int) != 32) = true := by simp; omega
    clear h1 h2 h1' h2'
    go_wp2_with (first | refine wpList_load_part rfl 48 _ rfl rfl [] (ciC (.slice ak key.length ck) n) [] r1 (whole16 _) rfl Tryd.underlying48 rfl (info_ci _ _) ?_ | (refine wpList_store_part rfl 48 _ _ rfl rfl (ciC (.slice ak key.length ck) n) rfl [] (ciC (.slice none 0 0) 0) [] (ciC (.slice ak key.length ck) n) rz (whole16 _) (whole16 _) rfl rfl (info_ci (.slice none 0 0) 0) (ciC_all _ _ _ _) ?_; intro w7 r7 hw7))
    refine bodyPost_blk3 rfl rfl rfl rfl rfl r7 Tryd.underlying48 rfl (info_ci _ _) ?_
    exact ⟨_, rfl, Rd.nil _, hw7.below _ _ z1 hbw⟩
  · have h1' : key.length = 32 := h1
    have h2' : n = 18446744073709551615 := h2
    have e1 : ((key.length : Int) == 0) = false := by rw [beq_eq_false_iff_ne]; omega
    have e2 : ((key.length : Int) != 32) = false := by simp; omega
    have e3 : ((n : Int) == 18446744073709551615) = true := by simp; omega
    clear h1 h2 h1' h2'
    go_wp2_with (first | refine wpList_load_part rfl 48 _ rfl rfl [] (ciC (.slice ak key.length ck) n) [] r1 (whole16 _) rfl Tryd.underlying48 rfl (info_ci _ _) ?_ | (refine wpList_store_part rfl 48 _ _ rfl rfl (ciC (.slice ak key.length ck) n) rfl [] (ciC (.slice none 0 0) 0) [] (ciC (.slice ak key.length ck) n) rz (whole16 _) (whole16 _) rfl rfl (info_ci (.slice none 0 0) 0) (ciC_all _ _ _ _) ?_; intro w7 r7 hw7))
    refine bodyPost_blk3 rfl rfl rfl rfl rfl r7 Tryd.underlying48 rfl (info_ci _ _) ?_
    exact ⟨_, rfl, Rd.nil _, hw7.below _ _ z1 hbw⟩
  · have h1' : key.length = 32 := h1
    have h2' : n ≠ 18446744073709551615 := h2
    have e1 : ((key.length : Int) == 0) = false := by rw [beq_eq_false_iff_ne]; omega
    have e2 : ((key.length : Int) != 32) = false := by simp; omega
    have e3 : ((n : Int) == 18446744073709551615) = false := by simp; omega
    have HK32 : Hid (key.length = 32) := h1'
    have HR : Hid (R = if (opQ key (ncL n) ad t).2 = 0 then (⟨key, n + 1⟩, (opQ key (ncL n) ad t).1, 0) else (⟨key, n⟩, [], (opQ key (ncL n) ad t).2)) := h3
    obtain ⟨m, hm⟩ : ∃ m : Nat, m = n + 1 := ⟨_, rfl⟩
    have HMm : Hid (m = n + 1) := hm
    have e4 : IntKind.u64.wrap ((n : Int) + 1) = (m : Int) := by rw [IntKind.wrap_u64]; have := HN.out; omega
    have e5 : ((n : Int) + 1) % 18446744073709551616 = (m : Int) := by have := HN.out; omega
    have hbd := hbw.drew
    clear h1 h2 h1' h2' hm h3
    go_wp2_with fail
    refine wpG_begin (by kernel_rfl) ?_
    refine gU_ 0 rfl ⟨_, by intro W hW; go_simp <;> with_reducible rfl, ?_⟩
    try simp only [Act.put, pA_, pB_, pC_]
    refine gU_ 1 rfl ⟨_, by intro W hW; have hcW := cell16 c0 hW; go_simp <;> with_reducible rfl, ?_⟩
    try simp only [Act.put, pA_, pB_, pC_]
    refine gU_ 2 rfl ⟨_, by intro W hW; go_simp <;> with_reducible rfl, ?_⟩
    try simp only [Act.put, pA_, pB_, pC_]
    refine gU_ 3 rfl ⟨_, by intro W hW; have hcW := cell16 c1 hW; go_simp <;> with_reducible rfl, ?_⟩
    try simp only [Act.put, pA_, pB_, pC_]
    refine gU_ 5 rfl ⟨_, by intro W hW; go_simp <;> with_reducible rfl, ?_⟩
    try simp only [Act.put, pA_, pB_, pC_]
    refine gU_ 6 rfl ⟨_, by intro W hW; go_simp <;> with_reducible rfl, ?_⟩
    try simp only [Act.put, pA_, pB_, pC_]
    refine gD_ 4 fun K hK => ?_
    go_simp
    refine (nonce16_any n HN.out _).mono ?_
    rintro e w3 ⟨v3, rfl, hN3⟩
    obtain ⟨a3, k3, rfl, -⟩ := id hN3.rd
    refine hK.out _ _ hN3.2 ?_
    clear hK K
    try simp only [Act.put, pA_, pB_, pC_]
    refine gD_ 7 fun K hK => ?_
    go_simp
    refine (openR_q _ _ _ _ key (ncL n) ad t HK32.out (ncL_length n) HLa.out HLt.out _ (Rd.kept HK.out (stepB hbd hN3.2)) hN3.rd (Rd.kept HA.out (stepB hbd hN3.2)) (Rd.kept HT.out (stepB hbd hN3.2))).mono ?_
    rintro e w4 ⟨v4, rfl, hN4⟩
    refine hK.out _ _ hN4.2 ?_
    clear hK K
    try simp only [Act.put, pA_, pB_, pC_]
    refine gU_ 8 rfl ⟨_, by intro W hW; go_simp <;> with_reducible rfl, ?_⟩
    try simp only [Act.put, pA_, pB_, pC_]
    refine gU_ 9 rfl ⟨_, by intro W hW; go_simp <;> with_reducible rfl, ?_⟩
    try simp only [Act.put, pA_, pB_, pC_]
    refine gU_ 10 rfl ⟨_, by intro W hW; go_simp <;> with_reducible rfl, ?_⟩
    try simp only [Act.put, pA_, pB_, pC_]
    refine gU_ 11 rfl ⟨_, by intro W hW; go_simp <;> with_reducible rfl, ?_⟩
    try simp only [Act.put, pA_, pB_, pC_]
    refine gU_ 12 rfl ⟨_, by intro W hW; go_simp <;> with_reducible rfl, ?_⟩
    try simp only [Act.put, pA_, pB_, pC_]
    refine wpG_done (by kernel_rfl) ?_
    have b4 := stepB hN3.2 hN4.2
    have r4 := (r1.drew.kept b4)
    have rz4 := (rz.drew.kept b4)
    have c0' : w4.cell? ⟨w.heap.size, 0, none⟩ = some (.slice ak key.length ck) := r4.cell 0
    have c1' : w4.cell? ⟨w.heap.size, 1, none⟩ = some (.int .u64 (n : Int)) := r4.cell 1
    have hR := HR.out
    obtain ⟨B, hB⟩ : ∃ B, B = (opQ key (ncL n) ad t).1 := ⟨_, rfl⟩
    obtain ⟨q, hq⟩ : ∃ q, q = (opQ key (ncL n) ad t).2 := ⟨_, rfl⟩
    rw [← hB] at hN4
    rw [← hB, ← hq] at hR
    rw [← hq]
    have HX : Hid (w4.ownsRow w3.heap.size 5 1 v4 B.length (B.map bv)) := hN4.1
    have HZ3 : Hid (w1.heap.size < w3.heap.size) := Nat.lt_of_lt_of_le rz.lt hN3.2.size
    have HB4 : Hid _ := stepB hbd b4
    clear hN3 hN4 b4 c0 c1 r1 rz hB hq HR
    by_cases hz : q = 0
    · have e6 : (q != 0) = false := by rw [hz]; rfl
      have HR : Hid (R = (⟨key, m⟩, B, q)) := (by rw [hR, if_pos hz, HMm.out, hz] : R = (⟨key, m⟩, B, q))
      have HZ : Hid (q = 0) := hz
      clear hz hR
      go_wp2_with (first | refine wpList_buildB rfl 48 #[(0, .tmp 42), (1, .tmp 45)] rfl _ (by go_simp; rfl) _ (build_ci _ _ _ _ _) ?_ | (refine wpList_store_part rfl 48 _ _ rfl rfl (ciC (.slice ak key.length ck) m) rfl [] (ciC (.slice none 0 0) 0) [] (ciC (.slice ak key.length ck) m) rz4 (whole16 _) (whole16 _) rfl rfl (info_ci (.slice none 0 0) 0) (ciC_all _ _ _ _) ?_; intro w7 r7 hw7))
      refine bodyPost_blk3 rfl rfl rfl rfl rfl r7 Tryd.underlying48 rfl (info_ci _ _) ?_
      have hR := HR.out
      subst hR
      refine ⟨v4, rfl, ?_, hw7.below _ _ z1 HB4.out⟩
      exact Rd.of_row (own_chg HX.out (Chg.of_wrote hw7) (fun g e1 e2 => by have := (HX.out.lt g e1).1; have := HZ3.out; omega))
    · have e6 : (q != 0) = true := by simpa using hz
      have HR : Hid (R = (⟨key, n⟩, [], q)) := (by rw [hR, if_neg hz] : R = (⟨key, n⟩, [], q))
      clear hz hR
      go_wp2_with (first | refine wpList_load_part rfl 48 _ rfl rfl [] (ciC (.slice ak key.length ck) n) [] r4 (whole16 _) rfl Tryd.underlying48 rfl (info_ci _ _) ?_ | (refine wpList_store_part rfl 48 _ _ rfl rfl (ciC (.slice ak key.length ck) n) rfl [] (ciC (.slice none 0 0) 0) [] (ciC (.slice ak key.length ck) n) rz4 (whole16 _) (whole16 _) rfl rfl (info_ci (.slice none 0 0) 0) (ciC_all _ _ _ _) ?_; intro w7 r7 hw7))
      refine bodyPost_blk3 rfl rfl rfl rfl rfl r7 Tryd.underlying48 rfl (info_ci _ _) ?_
      have hR := HR.out
      subst hR
      exact ⟨_, rfl, Rd.nil _, hw7.below _ _ z1 HB4.out⟩
end Go.Proofs.YtliiofjcghdjoaaDoor
