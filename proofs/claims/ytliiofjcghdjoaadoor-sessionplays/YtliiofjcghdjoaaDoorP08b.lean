/- What a piece stands for, and w a added to words of a row: contracts of package poly, second part. -/
import Derived.Test.YtliiofjcghdjoaaDoorP08a
import Derived.Test.YtliiofjcghdjoaaDoorBase
namespace Go.Proofs.YtliiofjcghdjoaaDoor
open Go.ChangeShapes Go.WideShapes Go.ChangeAt Go.RowKit
set_option linter.unusedSimpArgs false
set_option linter.unusedVariables false

def zs24 : List UInt8 := List.replicate 24 0
theorem zs24_length : zs24.length = 24 := List.length_replicate
theorem zs24_ne : zs24 ≠ [] := by unfold zs24; simp
theorem alloc24 (w : World) : (Instr.alloc 138 true (.tuple #[])).run Tryd.prog w = .ok (.pointer (some ⟨w.heap.size, 0, none⟩)) (w.alloc (.cells ((byI zs24).map (Value.int .u8)).toArray 138)) := by kernel_rfl

set_option maxRecDepth 100000 in
set_option maxHeartbeats 2000000 in
theorem pieceOf_any (vb : Value) (b : List UInt8) (w : World) (hr : Rd w vb b) (hb16 : b.length ≤ 16) :
    Calls Tryd.prog 81 #[vb] w fun e w' => ∃ r : List Nat, e = .returned (nmV r) ∧ Nm3 r ∧ wv r = leN b + 256 ^ b.length ∧ Below w.heap.size w w' := by
  go_enter Tryd.func81, Tryd.ntmps81
  go_wp2_with (refine wpList_alloc_row (k := .u64) rfl 124 rfl (nI z3) (alloc_nm _) z3_nm.ne (nmMax z3_nm) ?_)
  intro w1 r1 b1 s1
  rw [z3_nm.len] at r1
  go_wp2_with (refine wpList_alloc_row (k := .u8) rfl 138 rfl (byI zs24) (alloc24 _) (byI_ne zs24_ne) (by rw [byI_length, zs24_length]; decide) ?_)
  intro w2 r2 b2 s2
  rw [byI_length, zs24_length] at r2
  have hr2 := (hr.kept b1).kept b2
  have n1 : w.heap.size < w1.heap.size := by have := s1.out; omega
  clear hr s1 s2
  go_wp2_with (refine wpList_copy_part (w := w1) rfl _ _ 40 rfl 5 Tryd.underlying40 (by kernel_rfl) zs24 rfl (by rw [zs24_length]; decide) r2 _ b rfl hr2 hb16 zs24_ne b2 (Nat.le_refl _) ?_)
  intro w3 r3 b3
  replace r1 := r1.kept b3
  have hbw := stepB b1 b3
  have hfl : (b ++ zs24.drop b.length).length = 24 := by
    rw [List.length_append, List.length_drop, zs24_length]
    omega
  have HP : Hid (leN ((b ++ zs24.drop b.length).set b.length 1) = leN b + 256 ^ b.length) := piece_num b hb16
  obtain ⟨full, hfull⟩ : ∃ f : List UInt8, f = b ++ zs24.drop b.length := ⟨_, rfl⟩
  rw [← hfull] at r3 HP hfl
  obtain ⟨L, hL⟩ : ∃ L : Nat, L = b.length := ⟨_, rfl⟩
  rw [← hL] at HP hb16 ⊢
  have HLb : Hid _ := hL
  have hc := r3.cellB (j := L) (by omega)
  have hf := r3.free L
  have r4 := r3.setB L 1
  have r1' := r1.other (p := ⟨w1.heap.size, L, none⟩) (by show w1.heap.size ≠ _; omega) (.int .u8 ((1 : UInt8).toNat : Int))
  have hb4 := (Wrote.set w1.heap.size L w3 (.int .u8 ((1 : UInt8).toNat : Int))).below _ _ (by omega) hbw
  have hLI : (L : Int) < 24 := by omega
  have hRd := r4.rdB
  have hl24 : (full.set L 1).length = 24 := by rw [List.length_set, hfl]
  rw [hl24] at hRd
  have HR : Hid (Rd (w3.setCell ⟨w1.heap.size, L, none⟩ (.int .u8 1)) (.slice (some ⟨w1.heap.size, 0, none⟩) 24 24) (full.set L 1)) := hRd
  have HL24 : Hid _ := hl24
  have R1 : Hid (RowAt .u64 124 w.heap.size 3 (nI z3) (w3.setCell ⟨w1.heap.size, L, none⟩ (.int .u8 1))) := r1'
  have HB4 : Hid (Below w.heap.size w (w3.setCell ⟨w1.heap.size, L, none⟩ (.int .u8 1))) := hb4
  clear hr2 r2 r3 r4 r1 r1' b1 b2 b3 hbw hb4 hRd hfull hL hfl hl24
  go_wp2_with fail
  refine (numberOf_any _ _ _ HR.out (by rw [HL24.out]; decide)).mono ?_
  rintro e w5 ⟨x, rfl, hx, hv, b5⟩
  have r5 := R1.out.kept b5
  have hb5 := stepB HB4.out b5
  rw [HP.out, HLb.out] at hv
  go_wp2_with (refine wpList_store_row rfl 124 _ _ rfl (nI x) rfl rfl r5 (by rw [z3_nm.len, hx.len]) (nmInfo z3_nm) ?_; intro w6 r6 hw6)
  refine bodyPost_row (p := 2) (ty := 124) rfl rfl rfl r6 Tryd.underlying124 rfl (nmInfo hx) ?_
  exact ⟨x, rfl, hx, hv, hw6.below _ _ (by omega) hb5⟩

set_option maxRecDepth 100000 in
set_option maxHeartbeats 2000000 in
theorem paddTimes_any (g o : Nat) (B : Array Value) (l a : List Nat) (c : Nat) (C : Int) (ho2 : o ≤ 1) (hl : Wd5 l) (ha : Nm3 a) (hc : c < 18446744073709551616) (hB : B = ((nI a).map (Value.int .u64)).toArray) (hC : C = (c : Int)) (cp : Nat) (hcp : cp = 5 - o) (w : World) (hR : RowAt .u64 139 g 5 (nI l) w) :
    Calls Tryd.prog 90 #[.slice (some ⟨g, o, none⟩) 3 cp, .int .u64 C, .agg B] w fun e w' => ∃ (r : List Nat) (q : Nat), e = .returned (.int .u64 (q : Int)) ∧ q < 18446744073709551616 ∧ Wd5 r ∧ (∀ j, o + 3 ≤ j → r.getD j 0 = l.getD j 0) ∧
      wv r + 18446744073709551616 ^ (o + 3) * q = wv l + 18446744073709551616 ^ o * (c * wv a) ∧ RowAt .u64 139 g 5 (nI r) w' ∧ Chg (fun b => b = g) w w' := by
  subst hC hcp
  have hg := hR.lt
  go_enter Tryd.func90, Tryd.ntmps90
  go_wp2_with (refine wpList_box_row (k := .u64) rfl 124 _ rfl (nI a) (by rw [← hB]; rfl) ha.ne (nmMax ha) ?_)
  intro w1 r1 b1 s1
  rw [ha.len] at r1
  replace hR := hR.kept b1
  have hch : Chg (fun b => b = g) w w1 := Chg.of_below b1
  have HA : Hid (Nm3 a) := ha
  have HL : Hid (Wd5 l) := hl
  clear b1 s1 hB ha hl
  go_wp2
  go_loopw [12, 7] (fun iv cv wx => ∃ (i q : Nat) (cur : List Nat), i ≤ 3 ∧ iv = .int .i64 (i : Int) ∧ cv = .int .u64 (q : Int) ∧ q < 18446744073709551616 ∧ Hid (Wd5 cur) ∧ Hid (∀ j, o + i ≤ j → cur.getD j 0 = l.getD j 0) ∧ Hid (wv cur + 18446744073709551616 ^ (o + i) * q = wv l + 18446744073709551616 ^ o * (c * wv (a.take i))) ∧
    RowAt .u64 124 w.heap.size 3 (nI a) wx ∧ RowAt .u64 139 g 5 (nI cur) wx ∧ Chg (fun b => b = g) w wx) (fun iv _ _ => 3 - (intOf iv).toNat)
  case atStart => exact ⟨0, 0, l, by omega, rfl, rfl, by omega, HL, (fun _ _ => rfl), (by show _ = _; rw [Nat.mul_zero, List.take_zero]; rfl), r1, hR, hch⟩
  case round =>
    obtain ⟨i, q, cur, hi, rfl, rfl, hq, HC, HO, HE, ra, rc, hcx⟩ := hrel
    clear hR r1 hch
    by_cases hlt : i < 3
    · have hd : decide ((i : Int) < 3) = true := decide_eq_true (by omega)
      have hiI : (i : Int) < 3 := by omega
      have hca := ra.cell (j := i) (by rw [nI_length, HA.out.1]; exact hlt)
      have hcc := rc.cell (j := o + i) (by rw [nI_length, HC.out.1]; omega)
      have hfc := rc.free (o + i)
      rw [nI_get] at hca hcc
      have hy := HA.out.get i
      have hx := HC.out.get (o + i)
      have HS : Hid (∀ s q' : Nat, s < 18446744073709551616 → s + 18446744073709551616 * q' = cur.getD (o + i) 0 + c * a.getD i 0 + q → Wd5 (cur.set (o + i) s) ∧ q' < 18446744073709551616 ∧ (∀ j, o + (i + 1) ≤ j → (cur.set (o + i) s).getD j 0 = l.getD j 0) ∧ wv (cur.set (o + i) s) + 18446744073709551616 ^ (o + (i + 1)) * q' = wv l + 18446744073709551616 ^ o * (c * wv (a.take (i + 1)))) := by
        intro s q' hs he
        refine ⟨HC.out.set _ hs, at_bound _ _ _ _ _ _ hx hc hy hq he, fun j hj => ?_, at_off cur a o i q q' s (wv l) c (by rw [HC.out.1]; omega) (by rw [HA.out.1]; exact hlt) he HE.out⟩
        rw [getD_set8 _ _ _ _ (by omega)]
        exact HO.out j (by omega)
      have HRc : Hid (∀ s : Nat, RowAt .u64 139 g 5 (nI (cur.set (o + i) s)) (wr.setCell ⟨g, o + i, none⟩ (.int .u64 (s : Int)))) := fun s => by
        rw [← nI_set]
        exact rc.set (o + i) _
      have HRb : Hid (∀ u : Value, RowAt .u64 124 w.heap.size 3 (nI a) (wr.setCell ⟨g, o + i, none⟩ u) ∧ Chg (fun b => b = g) w (wr.setCell ⟨g, o + i, none⟩ u)) := fun u =>
        ⟨ra.other (p := ⟨g, o + i, none⟩) (by show g ≠ _; omega) u, hcx.trans (Chg.of_wrote (Wrote.set g (o + i) wr u))⟩
      generalize a.getD i 0 = y at hca hy HS
      generalize cur.getD (o + i) 0 = x at hcc hx HS
      clear ra rc hcx HE HO
      go_wp2_with fail
      refine (mul64_any c y hc hy _).mono ?_
      rintro e w4 ⟨⟨hi', lo, rfl, hhi, hlo, hp⟩, rfl⟩
      obtain ⟨s1, c1, hs1, he1, run1⟩ := add64_run lo x
      obtain ⟨s2, c2, hs2, he2, run2⟩ := add64_run s1 q
      have hpb : c * y ≤ 18446744073709551615 * 18446744073709551615 := Nat.mul_le_mul (by omega) (by omega)
      obtain ⟨g1, hg1⟩ : ∃ n : Nat, n = hi' + c1 := ⟨_, rfl⟩
      obtain ⟨g2, hg2⟩ : ∃ n : Nat, n = g1 + c2 := ⟨_, rfl⟩
      obtain ⟨k1, k2, k3, k4⟩ := HS.out s2 g2 hs2 (by omega)
      have a1 : IntKind.u64.wrap ((hi' : Int) + (c1 : Int)) = (g1 : Int) := wrapA _ _ _ hg1 (by omega)
      have a2 : IntKind.u64.wrap ((g1 : Int) + (c2 : Int)) = (g2 : Int) := wrapA _ _ _ hg2 (by omega)
      have K1 : Hid (Wd5 (cur.set (o + i) s2)) := k1
      have K3 : Hid (∀ j, o + (i + 1) ≤ j → (cur.set (o + i) s2).getD j 0 = l.getD j 0) := k3
      have K4 : Hid _ := k4
      have hR2 := HRc.out s2
      obtain ⟨hRa, hcn⟩ := HRb.out (.int .u64 (s2 : Int))
      clear k1 k3 k4 HS HRc HRb hg1 hg2 hpb hp he1 he2
      go_wp2_with (first | simp only [run1] | simp only [run2])
      go_roundw
      case rel => exact ⟨i + 1, g2, cur.set (o + i) s2, by omega, by go_num, rfl, k2, K1, K3, K4, hRa, hR2, hcn⟩
      case measure => simp [intOf] <;> omega
    · have hie : i = 3 := by omega
      have hd : decide ((i : Int) < 3) = false := decide_eq_false (by omega)
      have hiI : (3 : Int) ≤ (i : Int) := by omega
      have HE2 : Hid (wv cur + 18446744073709551616 ^ (o + 3) * q = wv l + 18446744073709551616 ^ o * (c * wv a)) := by
        have := HE.out
        rw [hie, List.take_of_length_le (by rw [HA.out.1]; exact Nat.le_refl _)] at this
        exact this
      have HO2 : Hid (∀ j, o + 3 ≤ j → cur.getD j 0 = l.getD j 0) := fun j hj => HO.out j (by omega)
      clear HE HO hie
      go_wp2
      go_ret
      exact ⟨cur, q, rfl, hq, HC.out, HO2.out, HE2.out, rc, hcx⟩
end Go.Proofs.YtliiofjcghdjoaaDoor
