/- What the document's own clamping of a key is: a contract of the reference of layer 6. -/
import Derived.Test.YthokfcmnijpkhaaCMath
import Derived.Test.YthokfcmnijpkhaaBlk
import Derived.Test.YthokfcmnijpkhaaRef05f
namespace Go.Proofs.Ythokfcmnijpkhaa
open Go.ChangeShapes Go.WideShapes Go.ChangeAt Go.RowKit
set_option linter.unusedSimpArgs false
set_option linter.unusedVariables false

set_option maxRecDepth 100000 in
set_option maxHeartbeats 1000000 in
theorem clampR_any (vk : Value) (k : List UInt8) (hk : k.length = 32) (w : World) (hr : Rd w vk k) :
    Calls Try.prog 17 #[vk] w fun e w' => ∃ r, e = .returned r ∧ New 5 w r (clL k) w' := by
  obtain ⟨ak, ck, rfl, -, hmk, -, -⟩ := id hr
  unfold maxLen at hmk
  have HK : Hid (k.length = 32) := hk
  have HL : Hid (([] : List UInt8).length + k.length ≤ 140737488355328) := by show _ ≤ _; rw [hk]; decide
  have hN0 : New 5 w (.slice none 0 0) [] w := New.start w
  clear hk
  go_enter Try.func17, Try.ntmps17
  go_wp2_with (at_builtin; go_must (refine wpList_append_new (w := w) rfl _ _ 22 rfl 5 Try.underlying22 infoU8b _ _ rfl hN0 _ _ rfl hr HL.out ?_))
  intro v1 w1 hN1 _
  obtain ⟨g, c, rfl, hc, hcell, hfree, hset⟩ := hN1.store (j := 0) (by have := HK.out; show 0 < k.length; omega)
  have hset' : ∀ u : UInt8, New 5 w (.slice (some ⟨g, 0, none⟩) k.length c) (k.set 0 u) (w1.setCell ⟨g, 0, none⟩ (.int .u8 ((u.toNat : Nat) : Int))) := hset
  have hcell' : w1.cell? ⟨g, 0, none⟩ = some (.int .u8 (((k.getD 0 0).toNat : Nat) : Int)) := hcell
  have hb0 := (k.getD 0 0).toNat_lt
  obtain ⟨q, hq⟩ : ∃ q : Nat, q = (k.getD 0 0).toNat / 8 := ⟨_, rfl⟩
  obtain ⟨p, hp⟩ : ∃ p : Nat, p = q * 8 := ⟨_, rfl⟩
  have hp2 : p < 256 := by omega
  have e1 : (((k.getD 0 0).toNat : Nat) : Int).tdiv 8 = (q : Int) := by rw [Int.tdiv_eq_ediv_of_nonneg (by omega)]; omega
  have e2 : IntKind.u8.wrap (q : Int) = (q : Int) := by rw [IntKind.wrap_u8]; omega
  have e3 : IntKind.u8.wrap ((q : Int) * 8) = (p : Int) := by rw [IntKind.wrap_u8]; omega
  have e4 : (((UInt8.ofNat p).toNat : Nat) : Int) = (p : Int) := by rw [UInt8.toNat_ofNat']; omega
  have hN2 := hset' (UInt8.ofNat p)
  rw [e4] at hN2
  have HP : Hid (p = (k.getD 0 0).toNat / 8 * 8) := by show _ = _; rw [hp, hq]
  have hl0 : (0 : Int) < (k.length : Int) := by have := HK.out; omega
  have hl31 : (31 : Int) < (k.length : Int) := by have := HK.out; omega
  have hn0 : 0 < k.length := by have := HK.out; omega
  have hn31 : 31 < k.length := by have := HK.out; omega
  obtain ⟨g', c', ev, -, hcell2, hfree2, hset2⟩ := hN2.store (j := 31) (by rw [List.length_set]; exact hn31)
  simp only [Value.slice.injEq, Option.some.injEq, Addr.mk.injEq, and_true, true_and] at ev
  obtain ⟨rfl, -, rfl⟩ := ev
  have hget : (k.set 0 (UInt8.ofNat p)).getD 31 0 = k.getD 31 0 := by
    rw [List.getD_eq_getElem?_getD, List.getElem?_set_ne (by decide), ← List.getD_eq_getElem?_getD]
  rw [hget] at hcell2
  have hb1 := (k.getD 31 0).toNat_lt
  obtain ⟨r, hr2⟩ : ∃ r : Nat, r = (k.getD 31 0).toNat % 64 := ⟨_, rfl⟩
  obtain ⟨s, hs⟩ : ∃ s : Nat, s = r + 64 := ⟨_, rfl⟩
  have e5 : (((k.getD 31 0).toNat : Nat) : Int).tmod 64 = (r : Int) := by rw [Int.tmod_eq_emod_of_nonneg (by omega)]; omega
  have e6 : IntKind.u8.wrap (r : Int) = (r : Int) := by rw [IntKind.wrap_u8]; omega
  have e7 : IntKind.u8.wrap ((r : Int) + 64) = (s : Int) := by rw [IntKind.wrap_u8]; omega
  have e8 : (((UInt8.ofNat s).toNat : Nat) : Int) = (s : Int) := by rw [UInt8.toNat_ofNat']; omega
  have hN3 := hset2 (UInt8.ofNat s)
  rw [e8] at hN3
  have HN : Hid (New 5 w (.slice (some ⟨g, 0, none⟩) k.length c) (clL k) ((w1.setCell ⟨g, 0, none⟩ (.int .u8 (p : Int))).setCell ⟨g, 31, none⟩ (.int .u8 (s : Int)))) := by
    have : clL k = (k.set 0 (UInt8.ofNat p)).set 31 (UInt8.ofNat s) := by
      unfold clL
      rw [HP.out, hs, hr2]
    rw [this]
    exact hN3
  generalize (k.getD 0 0).toNat = t0 at hcell' e1
  generalize (k.getD 31 0).toNat = t1 at hcell2 e5
  clear hset hset' hset2 hN3 hN2 hN1 hr hN0 hcell hget hq hp hr2 hs hb0 hb1 e4 e8 HP
  go_wp2
  go_ret
  exact ⟨_, rfl, HN.out⟩
end Go.Proofs.Ythokfcmnijpkhaa
