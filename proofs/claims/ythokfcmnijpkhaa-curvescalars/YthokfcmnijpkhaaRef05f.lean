/- What the document's own number of words, of bytes, and bytes of a number are: contracts of the reference of layer 5. -/
import Derived.Test.YthokfcmnijpkhaaRef05e
import Derived.Test.YthokfcmnijpkhaaArrB
namespace Go.Proofs.Ythokfcmnijpkhaa
open Go.ChangeShapes Go.WideShapes Go.ChangeAt Go.RowKit
set_option linter.unusedSimpArgs false
set_option linter.unusedVariables false

theorem dec_last (b : List UInt8) : dv (((List.range 32).map fun j => (b.getD j 0).toNat).set 31 ((b.getD 31 0).toNat % 128)) = decN b := by
  have e := dv_getD b
  unfold decN
  rw [List.range_succ, List.map_append] at e ⊢
  rw [List.map_cons, List.map_nil, dv_snoc] at e
  rw [List.set_append_right _ _ (by simp), List.length_map, List.length_range, Nat.sub_self, List.map_cons, List.map_nil, List.set_cons_zero, dv_snoc]
  rw [List.length_map, List.length_range] at e ⊢
  rw [← e]
  have hlt : dv ((List.range 31).map fun j => (b.getD j 0).toNat) < 256 ^ 31 := by
    have := dv_lt ((List.range 31).map fun j => (b.getD j 0).toNat) (fun x hx => by
      obtain ⟨j, -, rfl⟩ := List.mem_map.1 hx
      exact (b.getD j 0).toNat_lt)
    rwa [List.length_map, List.length_range] at this
  have hb := (b.getD 31 0).toNat_lt
  generalize dv ((List.range 31).map fun j => (b.getD j 0).toNat) = q at hlt ⊢
  generalize (b.getD 31 0).toNat = t at hb ⊢
  omega
theorem layF_short (b : List UInt8) (i : Nat) (h : b.length ≤ i) (hi : i ≤ 32) : layF (fun j => (b.getD j 0).toNat) 32 i = (List.range 32).map fun j => (b.getD j 0).toNat := by
  rw [← layF_full]
  unfold layF
  refine List.ext_getElem (by simp; omega) fun k h1 h2 => ?_
  simp only [List.getElem_append, List.length_map, List.length_range, List.getElem_map, List.getElem_range, List.getElem_replicate]
  have : k < 32 := by simp at h2; omega
  rw [dif_pos this]
  split
  · rfl
  · have : b.length ≤ k := by omega
    simp [this]

set_option maxRecDepth 100000 in
set_option maxHeartbeats 1000000 in
theorem decodeR_any (vb : Value) (b : List UInt8) (w : World) (hr : Rd w vb b) :
    Calls Try.prog 21 #[vb] w fun e w' => ∃ r, e = .returned r ∧ RdI .i64 w' r (fdL (decN b)) ∧ Below w.heap.size w w' := by
  obtain ⟨ti, hti, hz0, hz1, hz2⟩ := info_parts infoI
  have HR : Hid (Rd w vb b) := hr
  obtain ⟨ab, cb, rfl, -, hmb, -, -⟩ := id hr
  unfold maxLen at hmb
  clear hr
  go_enter Try.func21, Try.ntmps21
  go_wp2_with (at_make; go_must (refine wpList_make_full _ rfl _ _ 41 rfl w.heap.size 3 ti _ 1 Try.underlying41 hti hz0 hz1 _ _ _ _ 32 rfl rfl rfl rfl (by rw [hz2]; omega) (by unfold maxLen; omega) (Nat.le_refl _) ?_))
  intro w1 hown hgr
  have hN1 := NewI.made hown hgr
  rw [← nI_zeros, ← layF_zero (fun j => (b.getD j 0).toNat)] at hN1
  clear hown hgr
  go_wp2
  go_loopw [4] (fun iv wx => ∃ i : Nat, i ≤ 32 ∧ iv = .int .i64 (i : Int) ∧ NewI .i64 3 w (.slice (some ⟨w.heap.size, 0, none⟩) 32 32) (nI (layF (fun j => (b.getD j 0).toNat) 32 i)) wx) (fun iv _ => 32 - (intOf iv).toNat)
  case atStart => exact ⟨0, by omega, rfl, hN1⟩
  case round =>
    obtain ⟨i, hi, rfl, hN⟩ := hrel
    clear hN1
    by_cases hl : i < 32 ∧ i < b.length
    · obtain ⟨hl, hlb⟩ := hl
      have hd : decide ((i : Int) < 32) = true := decide_eq_true (by omega)
      have hiI : (i : Int) < 32 := by omega
      have hd2 : decide ((i : Int) < (b.length : Int)) = true := decide_eq_true (by omega)
      have hiB : (i : Int) < (b.length : Int) := by omega
      obtain ⟨bb, ob, cc, ev, -, hcb, -⟩ := (Rd.kept2 HR hN.2).cellAt (i := i) hlb
      simp only [Value.slice.injEq] at ev
      obtain ⟨rfl, -, rfl⟩ := ev
      obtain ⟨g, c, ev, -, -, k1, k2, k3⟩ := hN.at (j := i) (by rw [nI_length, layF_length _ _ _ hi]; exact hl)
      simp only [Value.slice.injEq, Option.some.injEq, Addr.mk.injEq, and_true, true_and] at ev
      obtain ⟨rfl, -, rfl⟩ := ev
      have k4 := k3 (((b.getD i 0).toNat : Nat) : Int)
      rw [nI_set, layF_next (fun j => (b.getD j 0).toNat) 32 i hl] at k4
      have hw := wrapb_i64 (b.getD i 0)
      have HK : Hid _ := k4
      generalize (nI (layF (fun j => (b.getD j 0).toNat) 32 i)).getD i 0 = z at k1
      generalize b.getD i 0 = q at hcb HK hw
      clear hN k3 k4
      go_wp2
      go_roundw
      case rel => exact ⟨i + 1, by omega, by go_num, HK.out⟩
      case measure => simp [intOf] <;> omega
    · have hfull : layF (fun j => (b.getD j 0).toNat) 32 i = (List.range 32).map fun j => (b.getD j 0).toNat := by
        by_cases h32 : i = 32
        · rw [h32, layF_full]
        · exact layF_short b i (by omega) hi
      rw [hfull] at hN
      have hcase : (i < 32 ∧ decide ((i : Int) < 32) = true ∧ decide ((i : Int) < (b.length : Int)) = false ∧ (b.length : Int) ≤ (i : Int)) ∨ (decide ((i : Int) < 32) = false ∧ (32 : Int) ≤ (i : Int)) := by
        by_cases h32 : i < 32
        · exact .inl ⟨h32, decide_eq_true (by omega), decide_eq_false (by omega), by omega⟩
        · exact .inr ⟨decide_eq_false (by omega), by omega⟩
      obtain ⟨g, c, ev, -, -, k1, k2, k3⟩ := hN.at (j := 31) (by rw [nI_length]; simp)
      simp only [Value.slice.injEq, Option.some.injEq, Addr.mk.injEq, and_true, true_and] at ev
      obtain ⟨rfl, -, rfl⟩ := ev
      have e31 : (nI ((List.range 32).map fun j => (b.getD j 0).toNat)).getD 31 0 = (((b.getD 31 0).toNat : Nat) : Int) := by
        rw [nI_get]
        rfl
      rw [e31] at k1
      obtain ⟨m, hm⟩ : ∃ m : Nat, m = (b.getD 31 0).toNat % 128 := ⟨_, rfl⟩
      have k4 := k3 (m : Int)
      rw [nI_set] at k4
      have HD : Hid (dv (((List.range 32).map fun j => (b.getD j 0).toNat).set 31 m) = decN b) := by show _ = _; rw [hm]; exact dec_last b
      have HBd : Hid (∀ t ∈ ((List.range 32).map fun j => (b.getD j 0).toNat).set 31 m, t ≤ 1099511627776) := by
        intro t htm
        rcases List.mem_or_eq_of_mem_set htm with h | h
        · obtain ⟨j, -, rfl⟩ := List.mem_map.1 h
          have := (b.getD j 0).toNat_lt
          show (b.getD j 0).toNat ≤ _
          omega
        · rw [h, hm]
          omega
      have HLn : Hid ((((List.range 32).map fun j => (b.getD j 0).toNat).set 31 m).length = 32) := by show _ = _; simp
      have hmm : (((b.getD 31 0).toNat : Nat) : Int).tmod 128 = (m : Int) := by rw [Int.tmod_eq_emod_of_nonneg (by omega)]; omega
      have hq := (b.getD 31 0).toNat_lt
      have hmb2 : m < 128 := by omega
      generalize ((List.range 32).map fun j => (b.getD j 0).toNat).set 31 m = o at k4 HD HBd HLn
      have hR4 := k4.rd
      have hb4 := k4.2
      generalize (b.getD 31 0).toNat = q at k1 hmm hq hm
      clear hN k3 k4 hl hfull e31 hm
      rcases hcase with ⟨h32, d1, d2, g2⟩ | ⟨d1, g1⟩
      all_goals
        go_wp2_with fail
        refine (modR_any _ o HBd.out (by rw [HLn.out]; omega) _ hR4).mono ?_
        rintro e w3 ⟨r3, rfl, hR3, hB3⟩
        rw [HD.out] at hR3
        go_wp2
        go_ret
        exact ⟨_, rfl, hR3, stepB hb4 hB3⟩

theorem infoU8b : (Try.prog.info? 5).map (fun i => (i.zero, i.size, i.bytes)) = some (some (.int .u8 0), 1, 1) := by kernel_rfl

set_option maxRecDepth 100000 in
set_option maxHeartbeats 1000000 in
theorem encodeR_any (va : Value) (x : Nat) (w : World) (ha : RdI .i64 w va (fdL x)) :
    Calls Try.prog 26 #[va] w fun e w' => ∃ r, e = .returned r ∧ New 5 w r (enL x) w' := by
  obtain ⟨ba, oa, ca, rfl, -, hla, hca⟩ := fdL_cells ha
  have HA : Hid _ := hca
  clear ha hca
  go_enter Try.func26, Try.ntmps26
  go_wp2
  go_loopw [3, 4] (fun v iv wx => ∃ i : Nat, i ≤ 32 ∧ iv = .int .i64 (i : Int) ∧ New 5 w v ((List.range i).map (stB (x % pN))) wx) (fun _ iv _ => 32 - (intOf iv).toNat)
  case atStart => exact ⟨0, by omega, rfl, New.start w⟩
  case round =>
    obtain ⟨i, hi, rfl, hN⟩ := hrel
    by_cases hl : i < 32
    · have hd : decide ((i : Int) < 32) = true := decide_eq_true (by omega)
      have hiI : (i : Int) < 32 := by omega
      have c1 : wr.cell? ⟨ba, oa + i, none⟩ = some (.int .i64 ((dg (x % pN) i : Nat) : Int)) := by
        rw [hN.2.cell (p := ⟨ba, oa + i, none⟩) hla]
        exact HA.out i hl
      have hw := stB_dg (x % pN) i
      have HN : Hid ((List.range i).map (stB (x % pN)) ++ [stB (x % pN) i] = (List.range (i + 1)).map (stB (x % pN))) := by
        show _ = _
        rw [List.range_succ, List.map_append]
        rfl
      generalize dg (x % pN) i = p at c1 hw
      generalize stB (x % pN) i = q at hw HN
      have hL : Rd (wr.alloc (.cells #[.int .u8 (q.toNat : Int)] 5)) (.slice (some ⟨wr.heap.size, 0, none⟩) 1 1) [q] := Rd.lit1 q rfl
      have hlen : ((List.range i).map (stB (x % pN))).length + [q].length ≤ 140737488355328 := by simp; omega
      go_wp2_with (at_builtin; go_must (refine wpList_append_new (w := w) rfl _ _ 22 rfl 5 Try.underlying22 infoU8b _ _ rfl (hN.alloc _) _ _ rfl hL hlen ?_))
      intro v3 w3 hN3 _
      rw [HN.out] at hN3
      clear hN hL hlen
      go_wp2
      go_roundw
      case rel => exact ⟨i + 1, by omega, by go_num, hN3⟩
      case measure => simp [intOf] <;> omega
    · have hie : i = 32 := by omega
      subst hie
      go_wp2
      go_ret
      exact ⟨_, rfl, hN⟩
end Go.Proofs.Ythokfcmnijpkhaa
