/- A key as it is used, a number times a point, a shared secret, a public key: contracts of package curve, last part. -/
import Derived.Test.YthokfcmnijpkhabV06f
import Derived.Test.YthokfcmnijpkhabCMath2
import Derived.Test.YthokfcmnijpkhabCMath3
import Derived.Test.YthokfcmnijpkhabWords
namespace Go.Proofs.Ythokfcmnijpkhab
open Go.ChangeShapes Go.WideShapes Go.ChangeAt Go.RowKit
set_option linter.unusedSimpArgs false
set_option linter.unusedVariables false

theorem and248 (x : Nat) (h : x < 256) : bits .and .u8 (x : Int) 248 = ((x / 8 * 8 : Nat) : Int) := by
  have h1 : ∀ x : Fin 256, bits .and .u8 (x.val : Int) 248 = ((x.val / 8 * 8 : Nat) : Int) := by decide +kernel
  exact h1 ⟨x, h⟩
theorem and127 (x : Nat) (h : x < 256) : bits .and .u8 (x : Int) 127 = ((x % 128 : Nat) : Int) := by
  have h1 : ∀ x : Fin 256, bits .and .u8 (x.val : Int) 127 = ((x.val % 128 : Nat) : Int) := by decide +kernel
  exact h1 ⟨x, h⟩
theorem or64 (x : Nat) (h : x < 256) : bits .or .u8 ((x % 128 : Nat) : Int) 64 = ((x % 64 + 64 : Nat) : Int) := by
  have h1 : ∀ x : Fin 256, bits .or .u8 ((x.val % 128 : Nat) : Int) 64 = ((x.val % 64 + 64 : Nat) : Int) := by decide +kernel
  exact h1 ⟨x, h⟩
theorem RdL.lit1 {w : World} {e : TypeId} {v1 : Value} {l1 : List UInt8} (h1 : Rd w v1 l1) : RdL (w.alloc (.cells #[v1] e)) (.slice (some ⟨w.heap.size, 0, none⟩) 1 1) [v1] [l1] :=
  RdL.lit _ _ rfl rfl rfl (by simp [maxLen]) rfl (fun i hi => by
    match i with
    | 0 => exact h1
    | i + 1 => exact absurd hi (by simp))
theorem New.one {e : TypeId} {w w' : World} {v : Value} {l1 : List UInt8} (h : New e w v [l1].flatten w') : New e w v l1 w' := by
  simpa using h

theorem clamp_arg (vk : Value) (k : List UInt8) (w : World) (hr : Rd w vk k) (hk : k.length ≠ 32) :
    Calls Try.prog 7 #[vk] w fun e w' => e = .returned (.tuple #[.slice none 0 0, .int .i64 1]) ∧ w' = w := by
  obtain ⟨ak, ck, rfl, -, hmk, -, -⟩ := id hr
  have hne : ((k.length : Int) != 32) = true := by simp; omega
  go_enter Try.func7, Try.ntmps7
  go_wp2
  go_ret2
  exact ⟨rfl, rfl⟩

set_option maxRecDepth 100000 in
set_option maxHeartbeats 2000000 in
theorem clamp_any (vk : Value) (k : List UInt8) (hk : k.length = 32) (w : World) (hr : Rd w vk k) :
    Calls Try.prog 7 #[vk] w fun e w' => ∃ r, e = .returned (.tuple #[r, .int .i64 0]) ∧ New 5 w r (clL k) w' := by
  obtain ⟨ak, ck, rfl, -, hmk, -, -⟩ := id hr
  have hne : ((k.length : Int) != 32) = false := by simp; omega
  have HK : Hid (k.length = 32) := hk
  have hL := RdL.lit1 (e := 24) hr
  have g1 := growB (w := w) (.cells #[.slice ak k.length ck] 24)
  have HT : Hid (totL [k] ≤ 1000000000) := by show _ ≤ _; simp [totL]; omega
  clear hk hmk
  go_enter Try.func7, Try.ntmps7
  go_wp2_with fail
  refine (join_any _ _ _ _ hL HT.out).mono ?_
  rintro e w1 ⟨v1, rfl, hN0⟩
  have hN1 : New 5 w v1 k w1 := hN0.one.from g1
  clear hN0 hL g1 hr hne
  obtain ⟨g, c, rfl, hc, hcell, hfree, hset⟩ := hN1.store (j := 0) (by have := HK.out; omega)
  have hb0 := (k.getD 0 0).toNat_lt
  obtain ⟨p, hp⟩ : ∃ p : Nat, p = (k.getD 0 0).toNat / 8 * 8 := ⟨_, rfl⟩
  have e1 := and248 (k.getD 0 0).toNat hb0
  rw [← hp] at e1
  have e4 : (((UInt8.ofNat p).toNat : Nat) : Int) = (p : Int) := by rw [UInt8.toNat_ofNat']; omega
  have hN2 := hset (UInt8.ofNat p)
  rw [e4] at hN2
  have hl0 : (0 : Int) < (k.length : Int) := by have := HK.out; omega
  have hl31 : (31 : Int) < (k.length : Int) := by have := HK.out; omega
  have hn0 : 0 < k.length := by have := HK.out; omega
  have hn31 : 31 < k.length := by have := HK.out; omega
  obtain ⟨g', c', ev, -, hcell2, hfree2, hset2⟩ := hN2.store (j := 31) (by rw [List.length_set]; exact hn31)
  simp only [Value.slice.injEq, Option.some.injEq, Addr.mk.injEq, and_true, true_and] at ev
  obtain ⟨rfl, -, rfl⟩ := ev
  have hget : (k.set 0 (UInt8.ofNat p)).getD 31 0 = k.getD 31 0 := by
    rw [List.getD_eq_getElem?_getD, List.getElem?_set_ne (by decide), ← List.getD_eq_getElem?_getD]
  rw [hget] at hcell2
  have hb1 := (k.getD 31 0).toNat_lt
  obtain ⟨m, hm⟩ : ∃ m : Nat, m = (k.getD 31 0).toNat % 128 := ⟨_, rfl⟩
  obtain ⟨s, hs⟩ : ∃ s : Nat, s = (k.getD 31 0).toNat % 64 + 64 := ⟨_, rfl⟩
  have e5 := and127 (k.getD 31 0).toNat hb1
  have e6 := or64 (k.getD 31 0).toNat hb1
  rw [← hm] at e5 e6
  rw [← hs] at e6
  have e8 : (((UInt8.ofNat s).toNat : Nat) : Int) = (s : Int) := by rw [UInt8.toNat_ofNat']; omega
  have hN3 := hset2 (UInt8.ofNat s)
  rw [e8] at hN3
  have HN : Hid (New 5 w (.slice (some ⟨g, 0, none⟩) k.length c) (clL k) ((w1.setCell ⟨g, 0, none⟩ (.int .u8 (p : Int))).setCell ⟨g, 31, none⟩ (.int .u8 (s : Int)))) := by
    have : clL k = (k.set 0 (UInt8.ofNat p)).set 31 (UInt8.ofNat s) := by
      unfold clL
      rw [hs, hp]
    rw [this]
    exact hN3
  generalize (k.getD 0 0).toNat = t0 at hcell e1
  generalize (k.getD 31 0).toNat = t1 at hcell2 e5
  clear hset hset2 hN3 hN2 hN1 hget hp hs hm hb0 hb1 e4 e8
  go_wp2
  go_ret2
  exact ⟨_, rfl, HN.out⟩

set_option maxRecDepth 100000 in
set_option maxHeartbeats 2000000 in
theorem scalar_arg (vk vu : Value) (k u : List UInt8) (w : World) (hk : Rd w vk k) (hu : Rd w vu u) (h : ¬ (k.length = 32 ∧ u.length = 32)) :
    Calls Try.prog 5 #[vk, vu] w fun e w' => e = .returned (.tuple #[.slice none 0 0, .int .i64 1]) ∧ Below w.heap.size w w' := by
  obtain ⟨au, cu, rfl, -, hmu, -, -⟩ := id hu
  go_enter Try.func5, Try.ntmps5
  go_wp2_with fail
  by_cases hl : k.length = 32
  · have hne : ((u.length : Int) != 32) = true := by simp; omega
    refine (clamp_any _ k hl _ hk).mono ?_
    rintro e w1 ⟨v1, rfl, hN⟩
    clear h
    go_wp2
    go_ret2
    exact ⟨rfl, hN.2⟩
  · refine (clamp_arg _ k _ hk hl).mono ?_
    rintro e w1 ⟨rfl, rfl⟩
    clear h hl
    go_wp2
    go_ret2
    exact ⟨rfl, Below.refl _ _⟩

theorem scN_of {r l : List Nat} {k u : List UInt8} (h : gv r = ldX (gv l) (bitB (clL k))) (hl : wv l = decN u) : enL (wv r) = enL (scN k u) := by
  have e : wv r % pN = scN k u % pN := by
    have h1 : (gv r).val = scN k u := by rw [h]; unfold scN gv; rw [hl]
    rw [Nat.mod_eq_of_lt (scN_lt k u), ← h1]
    rfl
  unfold enL
  rw [e]

set_option maxRecDepth 100000 in
set_option maxHeartbeats 2000000 in
theorem scalar_any (vk vu : Value) (k u : List UInt8) (w : World) (hk : Rd w vk k) (hu : Rd w vu u) (hk32 : k.length = 32) (hu32 : u.length = 32) :
    Calls Try.prog 5 #[vk, vu] w fun e w' => ∃ r, e = .returned (.tuple #[r, .int .i64 0]) ∧ New 5 w r (enL (scN k u)) w' := by
  obtain ⟨au, cu, rfl, -, hmu, -, -⟩ := id hu
  have hne : ((u.length : Int) != 32) = false := by simp; omega
  obtain ⟨L, hL⟩ : ∃ L : List UInt8, L = enL (scN k u) := ⟨_, rfl⟩
  rw [← hL]
  have HL : Hid _ := hL
  have H1 : Hid _ := hk32
  clear hL hk32 hu32
  go_enter Try.func5, Try.ntmps5
  go_wp2_with fail
  refine (clamp_any _ k H1.out _ hk).mono ?_
  rintro e w1 ⟨v1, rfl, hN⟩
  replace hu := hu.kept hN.2
  have hb := hN.2
  have hc := hN.rd
  clear hN
  go_wp2_with fail
  refine (fdecode_any _ u _ hu).mono ?_
  rintro e w2 ⟨l2, rfl, h2, v2, bn⟩
  have HV : Hid _ := v2
  clear v2
  replace hc := hc.kept bn
  replace hb := stepB hb bn
  clear bn
  go_wp2_with fail
  refine (ladder_any _ (clL k) (by rw [clL_length, H1.out]) _ l2 h2 rfl _ hc).mono ?_
  rintro e w3 ⟨r, rfl, hr, vr, bn⟩
  have HR : Hid _ := vr
  clear vr
  replace hb := stepB hb bn
  clear bn hc
  go_wp2_with fail
  refine (fencode_any _ r hr rfl _).mono ?_
  rintro e w4 ⟨v4, rfl, hN4⟩
  rw [scN_of HR.out HV.out, ← HL.out] at hN4
  go_wp2
  go_ret2
  exact ⟨_, rfl, hN4.from hb⟩

set_option maxHeartbeats 1000000 in
theorem shared_arg (vk vu : Value) (k u : List UInt8) (w : World) (hk : Rd w vk k) (hu : Rd w vu u) (h : ¬ (k.length = 32 ∧ u.length = 32)) :
    Calls Try.prog 6 #[vk, vu] w fun e w' => e = .returned (.tuple #[.slice none 0 0, .int .i64 1]) ∧ Below w.heap.size w w' := by
  go_enter Try.func6, Try.ntmps6
  go_wp2_with fail
  refine (scalar_arg _ _ k u _ hk hu h).mono ?_
  rintro e w1 ⟨rfl, hb⟩
  go_wp2
  go_ret2
  exact ⟨rfl, hb⟩

set_option maxHeartbeats 1000000 in
theorem shared_zero (vk vu : Value) (k u : List UInt8) (w : World) (hk : Rd w vk k) (hu : Rd w vu u) (hk32 : k.length = 32) (hu32 : u.length = 32) (hz : ∀ x ∈ enL (scN k u), x = 0) :
    Calls Try.prog 6 #[vk, vu] w fun e w' => e = .returned (.tuple #[.slice none 0 0, .int .i64 11]) ∧ Below w.heap.size w w' := by
  have HZ : Hid (decide (orL (enL (scN k u)) = 0) = true) := decide_eq_true ((orL_zero _).2 hz)
  go_enter Try.func6, Try.ntmps6
  go_wp2_with fail
  refine (scalar_any _ _ k u _ hk hu hk32 hu32).mono ?_
  rintro e w1 ⟨v1, rfl, hN⟩
  clear hz hk32 hu32
  go_wp2_with fail
  refine (zero_bool _ _ true HZ.out _ hN.rd).mono ?_
  rintro e w2 ⟨rfl, rfl⟩
  go_wp2
  go_ret2
  exact ⟨rfl, hN.2⟩

set_option maxHeartbeats 1000000 in
theorem shared_some (vk vu : Value) (k u : List UInt8) (w : World) (hk : Rd w vk k) (hu : Rd w vu u) (hk32 : k.length = 32) (hu32 : u.length = 32) (hz : ¬ ∀ x ∈ enL (scN k u), x = 0) :
    Calls Try.prog 6 #[vk, vu] w fun e w' => ∃ r, e = .returned (.tuple #[r, .int .i64 0]) ∧ New 5 w r (enL (scN k u)) w' := by
  have HZ : Hid (decide (orL (enL (scN k u)) = 0) = false) := decide_eq_false fun h => hz ((orL_zero _).1 h)
  go_enter Try.func6, Try.ntmps6
  go_wp2_with fail
  refine (scalar_any _ _ k u _ hk hu hk32 hu32).mono ?_
  rintro e w1 ⟨v1, rfl, hN⟩
  clear hz hk32 hu32
  go_wp2_with fail
  refine (zero_bool _ _ false HZ.out _ hN.rd).mono ?_
  rintro e w2 ⟨rfl, rfl⟩
  go_wp2
  go_ret2
  exact ⟨_, rfl, hN⟩

theorem nine_enc : enL (wv [9, 0, 0, 0]) = key9 := by decide +kernel
set_option maxHeartbeats 1000000 in
theorem public_any (vk : Value) (k : List UInt8) (w : World) (hk : Rd w vk k) :
    Calls Try.prog 8 #[vk] w fun e w' => (k.length = 32 → ∃ r, e = .returned (.tuple #[r, .int .i64 0]) ∧ New 5 w r (enL (scN k key9)) w') ∧ (k.length ≠ 32 → e = .returned (.tuple #[.slice none 0 0, .int .i64 1]) ∧ Below w.heap.size w w') := by
  go_enter Try.func8, Try.ntmps8
  go_wp2_with fail
  refine (fencode_any _ [9, 0, 0, 0] (small4 9 (by decide)) rfl _).mono ?_
  rintro e w1 ⟨v1, rfl, hN⟩
  rw [nine_enc] at hN
  replace hk := hk.kept hN.2
  have h9 := hN.rd
  have hb := hN.2
  clear hN
  go_wp2_with fail
  by_cases hl : k.length = 32
  · refine (scalar_any _ _ k key9 _ hk h9 hl key9_length).mono ?_
    rintro e w2 ⟨v2, rfl, hN3⟩
    go_wp2
    go_ret2
    exact ⟨fun _ => ⟨_, rfl, hN3.from hb⟩, fun h => absurd hl h⟩
  · refine (scalar_arg _ _ k key9 _ hk h9 (fun h => hl h.1)).mono ?_
    rintro e w2 ⟨rfl, b2⟩
    go_wp2
    go_ret2
    exact ⟨fun h => absurd h hl, fun _ => ⟨rfl, stepB hb b2⟩⟩
end Go.Proofs.Ythokfcmnijpkhab
