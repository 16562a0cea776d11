/- A message's pieces: contracts of the reference of layer 19, eighth part. -/
import Derived.Test.YtkljklfejaojaaaRef19g
namespace Go.Proofs.Ytkljklfejaojaaa
open Go.ChangeShapes Go.WideShapes Go.ChangeAt Go.RowKit
set_option linter.unusedSimpArgs false
set_option linter.unusedVariables false

theorem conv19 {w : World} {v : Value} {l : List UInt8} (h : Rd w v l) : (convert 22 9 v).run Try.prog w = .ok (.string ⟨l.toArray⟩) w := h.conv Try.underlying22 Try.underlying5 Try.underlying9
theorem infoStr19 : ∃ i z, Try.prog.info? 9 = some i ∧ i.zero = some z ∧ i.size = 1 ∧ i.bytes = 16 ∧ z.cells.size = 1 := ⟨_, _, rfl, rfl, rfl, rfl, rfl⟩
theorem news19 {w : World} {e : TypeId} (u : Value) {b : Nat} (hb : b = w.heap.size) : ∀ j x, [u][j]? = some x → (w.alloc (.cells #[u] e)).cell? ((⟨b, 0, none⟩ : Addr).add j) = some x := by
  subst hb
  intro j x h
  cases j with
  | zero =>
    simp at h
    subst h
    have hh : (w.alloc (.cells #[u] e)).heap[w.heap.size]? = some (.cells #[u] e) := by
      show (w.heap.push _)[w.heap.size]? = _
      simp
    show World.cell? _ ⟨w.heap.size, 0, none⟩ = _
    unfold World.cell?
    rw [hh]
    simp
  | succ j => simp at h
/-- A row of texts of one's own. -/
abbrev rwS (v : Value) (ls : List (List UInt8)) : Rw := ⟨9, 1, v, ls.length, ls.map sv⟩
theorem spP_len (m : List UInt8) : ∀ k, (spP m k).length = k
  | 0 => rfl
  | k + 1 => by simp [spP, spP_len m k]
set_option maxRecDepth 100000 in
set_option maxHeartbeats 4000000 in
theorem split19_any (m : List UInt8) (v : Value) (w : World) (hr : Rd w v m) :
    Calls Try.prog 10 #[v] w fun r w' => ∃ v', r = .returned (.tuple #[v', .int .i64 (spF m).2]) ∧ OwnG w [rwS v' (spF m).1] w' := by
  obtain ⟨ti, tz, ht1, ht2, ht3, ht4, ht5⟩ := infoStr19
  obtain ⟨a, c, rfl, h2, h3, -, h5⟩ := id hr
  unfold maxLen at h3
  obtain ⟨L, hL⟩ : ∃ L : Nat, L = m.length := ⟨_, rfl⟩
  rw [← hL] at h2 hr ⊢
  have HL : Hid (L = m.length) := hL
  have HR : Hid (Rd w (.slice a L c) m) := hr
  have HA : Hid (0 < L → ∃ b off, a = some ⟨b, off, none⟩) := by
    show _ → _
    intro h0
    rcases h5 with h5 | ⟨b, off, h5, -⟩
    · rw [h5] at hL
      simp at hL
      omega
    · exact ⟨b, off, h5⟩
  clear hr hL h5
  by_cases h0 : L = 0
  · have hd : ((L : Int) == 0) = true := by simp [h0]
    have HF : Hid (spF m = ([], 1)) := by show _ = _; unfold spF; rw [if_pos (by rw [← HL.out]; exact h0)]
    rw [HF.out]
    clear h0
    go_enter Try.func10, Try.ntmps10
    go_wp2
    go_ret2
    exact ⟨_, rfl, (OwnG.start w).nil _ 1⟩
  have hd : ((L : Int) == 0) = false := by simp [h0]
  by_cases h1 : 65536 < L
  · have hd1 : decide ((65536 : Int) < (L : Int)) = true := decide_eq_true (by omega)
    have HF : Hid (spF m = ([], 14)) := by show _ = _; unfold spF; rw [if_neg (by rw [← HL.out]; exact h0), if_pos (by rw [← HL.out]; exact h1)]
    rw [HF.out]
    clear h0
    go_enter Try.func10, Try.ntmps10
    go_wp2
    go_ret2
    exact ⟨_, rfl, (OwnG.start w).nil _ 1⟩
  have hd1 : decide ((65536 : Int) < (L : Int)) = false := decide_eq_false (by omega)
  obtain ⟨b, off, rfl⟩ := HA.out (by omega)
  obtain ⟨K, hK⟩ : ∃ K, K = (L + 1023) / 1024 := ⟨_, rfl⟩
  have HK : Hid (K = (L + 1023) / 1024) := hK
  have HF : Hid (spF m = (spP m K, 0)) := by show _ = _; unfold spF; rw [if_neg (by rw [← HL.out]; exact h0), if_neg (by rw [← HL.out]; exact h1), ← HL.out, hK]
  clear hK
  rw [HF.out]
  go_enter Try.func10, Try.ntmps10
  go_wp2
  go_loopw [4, 5] (fun ov iv wx => ∃ k i : Nat, i = 1024 * k ∧ i < L + 1024 ∧ iv = .int .i64 (i : Int) ∧ Hid (OwnG w [rwS ov (spP m k)] wx)) (fun _ iv _ => L + 1024 - (intOf iv).toNat)
  case atStart => exact ⟨0, 0, rfl, by omega, rfl, (OwnG.start w).nil _ 1⟩
  case round =>
    obtain ⟨k, i, hik, hib, rfl, HO⟩ := hrel
    by_cases hlt : i < L
    · have hd2 : decide ((i : Int) < (L : Int)) = true := decide_eq_true (by omega)
      obtain ⟨T, hT⟩ : ∃ T : Nat, T = i + 1024 := ⟨_, rfl⟩
      have e1 : IntKind.i64.wrap ((i : Int) + 1024) = (T : Int) := by rw [IntWalk.i64_in _ (by omega)]; omega
      have HIK : Hid (i = 1024 * k) := hik
      have HTI : Hid (T = i + 1024) := hT
      obtain ⟨U, hU, hUi, hUL⟩ : ∃ U : Nat, U = min T L ∧ i ≤ U ∧ U ≤ L := ⟨_, rfl, by omega, by omega⟩
      have hci : ¬ c = i := by omega
      have hi1 : (i : Int) ≤ (U : Int) := by omega
      have hi2 : (U : Int) ≤ (c : Int) := by omega
      have hrd := (HR.out.kept HO.out.below).sub i U hUi hUL
      have hcv := conv19 hrd
      have HP : Hid ((m.drop i).take (U - i) = (m.drop (1024 * k)).take 1024) := by
        show _ = _
        rw [← hik]
        by_cases h : T ≤ L
        · rw [show U - i = 1024 by omega]
        · rw [List.take_of_length_le (by rw [List.length_drop, ← HL.out]; omega), List.take_of_length_le (by rw [List.length_drop, ← HL.out]; omega)]
      obtain ⟨y, hy⟩ : ∃ y, y = (m.drop i).take (U - i) := ⟨_, rfl⟩
      rw [← hy] at hcv HP
      have HS : Hid ((spP m (k + 1)).map sv = (spP m k).map sv ++ [.string ⟨y.toArray⟩]) := by
        show _ = _
        rw [spP, List.map_append, ← HP.out]
        rfl
      generalize hYb : (⟨y.toArray⟩ : ByteArray) = Y at hcv HS
      have HUE : Hid (U = min T L) := hU
      have HLen : Hid ((spP m k).length = k) := spP_len m k
      have HLen2 : Hid ((spP m (k + 1)).length = k + 1) := spP_len m (k + 1)
      have hkb : k ≤ 64 := by omega
      clear hrd hy hYb HP hik hT
      by_cases hTL : L < T
      case pos =>
        have hd3 : decide ((L : Int) < (T : Int)) = true := decide_eq_true (by omega)
        have hd4 : decide (L < T) = true := decide_eq_true (by omega)
        obtain rfl : U = L := by omega
        clear hU hTL
        go_wp2_with (at_builtin; go_must (refine wpList_append_E rfl _ _ 28 rfl 9 ti _ 1 16 Try.underlying28 ht1 ht2 ht3 ht4 ht5 (by decide) _ _ _ rfl (HO.out.kept (growB _)) ⟨wr.heap.size, 0, none⟩ 1 1 [.string Y] rfl rfl (news19 _ rfl) (by intro u hu; simp at hu; subst hu; rfl) (by unfold maxLen; rw [HLen.out]; omega) (by rw [HLen.out]; omega) ?_))
        intro v6 w6 hO6 _
        have HO6 : Hid (OwnG w [rwS v6 (spP m (k + 1))] w6) := by
          show OwnG _ _ _
          unfold rwS
          rw [HLen2.out, HS.out]
          rw [HLen.out] at hO6
          exact hO6
        clear hO6
        go_wp2
        go_roundw
        case rel => exact ⟨k + 1, T, by have := HIK.out; have := HTI.out; omega, by have := HTI.out; omega, by go_num, HO6⟩
        case measure => have := HTI.out; simp [intOf] <;> omega
      case neg =>
        have hd3 : decide ((L : Int) < (T : Int)) = false := decide_eq_false (by omega)
        have hd4 : decide (L < T) = false := decide_eq_false (by omega)
        obtain rfl : U = T := by omega
        clear hU hTL
        go_wp2_with (at_builtin; go_must (refine wpList_append_E rfl _ _ 28 rfl 9 ti _ 1 16 Try.underlying28 ht1 ht2 ht3 ht4 ht5 (by decide) _ _ _ rfl (HO.out.kept (growB _)) ⟨wr.heap.size, 0, none⟩ 1 1 [.string Y] rfl rfl (news19 _ rfl) (by intro u hu; simp at hu; subst hu; rfl) (by unfold maxLen; rw [HLen.out]; omega) (by rw [HLen.out]; omega) ?_))
        intro v6 w6 hO6 _
        have HO6 : Hid (OwnG w [rwS v6 (spP m (k + 1))] w6) := by
          show OwnG _ _ _
          unfold rwS
          rw [HLen2.out, HS.out]
          rw [HLen.out] at hO6
          exact hO6
        clear hO6
        go_wp2
        go_roundw
        case rel => exact ⟨k + 1, U, by have := HIK.out; have := HTI.out; omega, by have := HTI.out; omega, by go_num, HO6⟩
        case measure => have := HTI.out; simp [intOf] <;> omega
    · have hd2 : decide ((i : Int) < (L : Int)) = false := decide_eq_false (by omega)
      obtain rfl : k = K := by have := HK.out; omega
      go_wp2
      go_ret2
      exact ⟨_, rfl, HO.out⟩
end Go.Proofs.Ytkljklfejaojaaa
