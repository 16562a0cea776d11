/- What the document's own clamping of a key is: a contract of the reference of layer 8. -/
import Derived.Test.YtliiofjcghdjoaaDoorRef08a
namespace Go.Proofs.YtliiofjcghdjoaaDoor
open Go.ChangeShapes Go.WideShapes Go.ChangeAt Go.RowKit
set_option linter.unusedSimpArgs false
set_option linter.unusedVariables false

theorem infoU88 : (Tryd.prog.info? 5).map (fun i => (i.zero, i.size, i.bytes)) = some (some (.int .u8 0), 1, 1) := by kernel_rfl
theorem New.store8 {e : TypeId} {w wr : World} {v : Value} {l : List UInt8} (h : New e w v l wr) {j : Nat} (hj : j < l.length) :
    ∃ g cap, v = .slice (some ⟨g, 0, none⟩) l.length cap ∧ l.length ≤ cap ∧ wr.cell? ⟨g, j, none⟩ = some (.int .u8 ((l.getD j 0).toNat : Int)) ∧ wr.frozen? ⟨g, j, none⟩ = false ∧
      ∀ u : UInt8, New e w v (l.set j u) (wr.setCell ⟨g, j, none⟩ (.int .u8 ((u.toNat : Nat) : Int))) := by
  obtain ⟨a, c, rfl, hc, -, -, -⟩ := id h.rd
  obtain ⟨g, rfl, hge, -, hcell, hfree, hset⟩ := own_at rfl h.1 hj
  exact ⟨g, c, rfl, hc, hcell, hfree, fun u => ⟨hset u _ rfl, h.2.setCell hge _⟩⟩
/-- The first loop's row behind j rounds, and the second's. -/
def cl1 (k : List UInt8) : Nat → List UInt8
  | 0 => k.take 16
  | j + 1 => (cl1 k j).set (4 * j + 3) (UInt8.ofNat (((cl1 k j).getD (4 * j + 3) 0).toNat % 16))
def cl2 (k : List UInt8) : Nat → List UInt8
  | 0 => cl1 k 4
  | j + 1 => (cl2 k j).set (4 * j + 4) (UInt8.ofNat (((cl2 k j).getD (4 * j + 4) 0).toNat / 4 * 4))
theorem cl1_length (k : List UInt8) (h : k.length = 32) : ∀ j, (cl1 k j).length = 16
  | 0 => by simp [cl1, h]
  | j + 1 => by simp [cl1, cl1_length k h j]
theorem cl2_length (k : List UInt8) (h : k.length = 32) : ∀ j, (cl2 k j).length = 16
  | 0 => cl1_length k h 4
  | j + 1 => by simp [cl2, cl2_length k h j]
theorem sixteen {l : List UInt8} (h : l.length = 16) : ∃ a b c d e f g i j k m n o p q r, l = [a, b, c, d, e, f, g, i, j, k, m, n, o, p, q, r] := by
  match l, h with
  | [a, b, c, d, e, f, g, i, j, k, m, n, o, p, q, r], _ => exact ⟨a, b, c, d, e, f, g, i, j, k, m, n, o, p, q, r, rfl⟩
theorem clP_take (k : List UInt8) : clP (k.take 16) = clP k := by
  unfold clP
  refine List.map_congr_left fun i hi => ?_
  have h : (k.take 16).getD i 0 = k.getD i 0 := by
    have := List.mem_range.1 hi
    simp [List.getElem?_take, this]
  simp only [h]
theorem cl2_done (k : List UInt8) (h : k.length = 32) : cl2 k 3 = clP k := by
  rw [← clP_take]
  obtain ⟨a, b, c, d, e, f, g, i, j, m, n, o, p, q, r, s, e0⟩ := sixteen (l := k.take 16) (by simp [h])
  unfold cl2 cl2 cl2 cl2 cl1 cl1 cl1 cl1 cl1
  rw [e0]
  rfl
/-- One byte less its upper or its lower bits. -/
theorem low4 (u : UInt8) : ∃ q : Nat, q = u.toNat % 16 ∧ ((u.toNat : Nat) : Int).tmod 16 = (q : Int) ∧ IntKind.u8.wrap (q : Int) = (q : Int) ∧ (((UInt8.ofNat q).toNat : Nat) : Int) = (q : Int) := by
  have := u.toNat_lt
  refine ⟨_, rfl, ?_, ?_, ?_⟩
  · rw [Int.tmod_eq_emod_of_nonneg (by omega)]; omega
  · rw [IntKind.wrap_u8]; omega
  · rw [UInt8.toNat_ofNat']; omega
theorem off2 (u : UInt8) : ∃ q p : Nat, p = u.toNat / 4 * 4 ∧ ((u.toNat : Nat) : Int).tdiv 4 = (q : Int) ∧ IntKind.u8.wrap (q : Int) = (q : Int) ∧ IntKind.u8.wrap ((q : Int) * 4) = (p : Int) ∧ (((UInt8.ofNat p).toNat : Nat) : Int) = (p : Int) := by
  have := u.toNat_lt
  refine ⟨u.toNat / 4, _, rfl, ?_, ?_, ?_, ?_⟩
  · rw [Int.tdiv_eq_ediv_of_nonneg (by omega)]; omega
  · rw [IntKind.wrap_u8]; omega
  · rw [IntKind.wrap_u8]; omega
  · rw [UInt8.toNat_ofNat']; omega

set_option maxRecDepth 100000 in
set_option maxHeartbeats 1000000 in
theorem clamp8_any (vk : Value) (k : List UInt8) (hk : k.length = 32) (w : World) (hr : Rd w vk k) :
    Calls Tryd.prog 73 #[vk] w fun e w' => ∃ r, e = .returned r ∧ New 5 w r (clP k) w' := by
  obtain ⟨ak, ck, rfl, hck, hmk, -, -⟩ := id hr
  unfold maxLen at hmk
  have HK : Hid (k.length = 32) := hk
  have hr2 := Rd.take hr (n := 16) (by rw [hk]; decide)
  have HL : Hid (([] : List UInt8).length + (k.take 16).length ≤ 140737488355328) := by show _ ≤ _; simp [hk]
  rw [hk] at hck ⊢
  have hN0 : New 5 w (.slice none 0 0) [] w := New.start w
  clear hk hr
  go_enter Tryd.func73, Tryd.ntmps73
  go_wp2_with (at_builtin; go_must (refine wpList_append_new (w := w) rfl _ _ 40 rfl 5 Tryd.underlying40 infoU88 _ _ rfl hN0 _ _ rfl hr2 HL.out ?_))
  intro v1 w1 hN1 _
  have hN1' : New 5 w v1 (cl1 k 0) w1 := hN1
  clear hN1 hN0 hr2
  obtain ⟨g, c, rfl, hc, -, -, -⟩ := hN1'.store8 (j := 0) (by rw [cl1_length k HK.out]; decide)
  rw [cl1_length k HK.out] at hc hN1' ⊢
  go_wp2
  go_loopw [4] (fun iv wr => ∃ j : Nat, iv = .int .i64 ((4 * j + 3 : Nat) : Int) ∧ j ≤ 4 ∧ New 5 w (.slice (some ⟨g, 0, none⟩) 16 c) (cl1 k j) wr) (fun iv _ => 20 - (intOf iv).toNat)
  case atStart => exact ⟨0, rfl, by omega, hN1'⟩
  case round =>
    obtain ⟨j, rfl, hj, hN⟩ := hrel
    clear hN1'
    by_cases hlt : j < 4
    · obtain ⟨i, hi⟩ : ∃ i : Nat, i = 4 * j + 3 := ⟨_, rfl⟩
      obtain ⟨g', c', ev, -, hcell, hfree, hset⟩ := hN.store8 (j := i) (by rw [cl1_length k HK.out]; omega)
      simp only [Value.slice.injEq, Option.some.injEq, Addr.mk.injEq, and_true, true_and] at ev
      obtain ⟨rfl, -, rfl⟩ := ev
      obtain ⟨q, hq, e1, e2, e3⟩ := low4 ((cl1 k j).getD i 0)
      have HS := hset (UInt8.ofNat q)
      rw [e3] at HS
      have HN : Hid (New 5 w (.slice (some ⟨g, 0, none⟩) 16 c) (cl1 k (j + 1)) (wr.setCell ⟨g, i, none⟩ (.int .u8 (q : Int)))) := by
        have : cl1 k (j + 1) = (cl1 k j).set i (UInt8.ofNat q) := by rw [hq, hi]; rfl
        rw [this]
        exact HS
      rw [← hi]
      have hd : decide ((i : Int) < 16) = true := decide_eq_true (by omega)
      have hiI : (i : Int) < 16 := by omega
      have HI : Hid (i = 4 * j + 3) := hi
      generalize ((cl1 k j).getD i 0).toNat = t at hcell e1
      clear hset HS hq hN e3 hi
      go_wp2
      go_roundw
      case rel => exact ⟨j + 1, by rw [HI.out]; go_num, by omega, HN.out⟩
      case measure => have := HI.out; simp [intOf]; omega
    · have hj4 : j = 4 := by omega
      subst hj4
      have hN2 : New 5 w (.slice (some ⟨g, 0, none⟩) 16 c) (cl2 k 0) wr := hN
      clear hN
      go_wp2
      go_loopw [5] (fun iv wr => ∃ j : Nat, iv = .int .i64 ((4 * j + 4 : Nat) : Int) ∧ j ≤ 3 ∧ New 5 w (.slice (some ⟨g, 0, none⟩) 16 c) (cl2 k j) wr) (fun iv _ => 20 - (intOf iv).toNat)
      case atStart => exact ⟨0, rfl, by omega, hN2⟩
      case round =>
        obtain ⟨j, rfl, hj, hN⟩ := hrel
        rename World => WC
        clear hN2
        by_cases hlt : j < 3
        · obtain ⟨i, hi⟩ : ∃ i : Nat, i = 4 * j + 4 := ⟨_, rfl⟩
          obtain ⟨g', c', ev, -, hcell, hfree, hset⟩ := hN.store8 (j := i) (by rw [cl2_length k HK.out]; omega)
          simp only [Value.slice.injEq, Option.some.injEq, Addr.mk.injEq, and_true, true_and] at ev
          obtain ⟨rfl, -, rfl⟩ := ev
          obtain ⟨p, q, hq, e1, e2, e4, e3⟩ := off2 ((cl2 k j).getD i 0)
          have HS := hset (UInt8.ofNat q)
          rw [e3] at HS
          have HN : Hid (New 5 w (.slice (some ⟨g, 0, none⟩) 16 c) (cl2 k (j + 1)) (WC.setCell ⟨g, i, none⟩ (.int .u8 (q : Int)))) := by
            have : cl2 k (j + 1) = (cl2 k j).set i (UInt8.ofNat q) := by rw [hq, hi]; rfl
            rw [this]
            exact HS
          rw [← hi]
          have hd : decide ((i : Int) < 16) = true := decide_eq_true (by omega)
          have hiI : (i : Int) < 16 := by omega
          have HI : Hid (i = 4 * j + 4) := hi
          generalize ((cl2 k j).getD i 0).toNat = t at hcell e1
          clear hset HS hq hN e3 hi
          go_wp2
          go_roundw
          case rel => exact ⟨j + 1, by rw [HI.out]; go_num, by omega, HN.out⟩
          case measure => have := HI.out; simp [intOf]; omega
        · have hj3 : j = 3 := by omega
          subst hj3
          rw [cl2_done k HK.out] at hN
          go_wp2
          go_ret
          exact ⟨_, rfl, hN⟩
theorem clamp8_none (vk : Value) (k : List UInt8) (hk : k.length ≠ 32) (w : World) (hr : Rd w vk k) :
    Calls Tryd.prog 73 #[vk] w fun e w' => e = .returned (.slice none 0 0) ∧ w' = w := by
  obtain ⟨ak, ck, rfl, hck, hmk, -, -⟩ := id hr
  have hne : ((k.length : Int) != 32) = true := by simp; omega
  clear hr hk
  go_enter Tryd.func73, Tryd.ntmps73
  go_wp2
  go_ret
  exact ⟨rfl, rfl⟩
end Go.Proofs.YtliiofjcghdjoaaDoor
