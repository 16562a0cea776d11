/- Polynomials packed: contracts of package sample, fifth part. -/
import Derived.Test.YtmhbjaampobcbaaGreatDoorL12b
namespace Go.Proofs.YtmhbjaampobcbaaGreatDoor
open Go.ChangeShapes Go.WideShapes Go.ChangeAt Go.RowKit
set_option linter.unusedSimpArgs false
set_option linter.unusedVariables false

theorem infoS5 : (Tryz.prog.info? 5).map (fun i => (i.zero, i.size, i.bytes)) = some (some (.int .u8 0), 1, 1) := by kernel_rfl
theorem pk_at12 (d : Nat) (F : Nat → Int) (i j : Nat) (hj : j < d) : pkB d F (d * i + j) = rsZ (F i) / 2 ^ j % 2 := by
 have hd : 0 < d := by omega
 unfold pkB
 rw [Nat.mul_add_div hd, Nat.div_eq_of_lt hj, Nat.add_zero, Nat.mul_add_mod, Nat.mod_eq_of_lt hj]
theorem place12_facts (d i j : Nat) (h1 : 1 ≤ d) (h2 : d ≤ 12) (hi : i < 256) (hj : j < d) : ∃ a m q r : Nat, m = d * i + j ∧ m < 256 * d ∧ q = m / 8 ∧ r = m % 8 ∧ r < 8 ∧ IntKind.i64.wrap ((d : Int) * (i : Int)) = (a : Int) ∧ IntKind.i64.wrap ((a : Int) + (j : Int)) = (m : Int) ∧
  ((m : Nat) : Int).tdiv 8 = (q : Int) ∧ (m : Int) / 8 = (q : Int) ∧ ((m : Nat) : Int).tmod 8 = (r : Int) ∧ (m : Int) % 8 = (r : Int) ∧ IntKind.i64.wrap (q : Int) = (q : Int) ∧ IntKind.i64.wrap (r : Int) = (r : Int) := by
 have h3 : d * i + d ≤ 256 * d := by
  have := Nat.mul_le_mul_left d (show i + 1 ≤ 256 by omega)
  rw [Nat.mul_succ, Nat.mul_comm d 256] at this
  exact this
 have e : (d : Int) * (i : Int) = ((d * i : Nat) : Int) := by rw [Int.natCast_mul]
 rw [e]
 generalize d * i = a at h3
 refine ⟨a, a + j, (a + j) / 8, (a + j) % 8, rfl, by omega, rfl, rfl, by omega, IntWalk.i64_in _ (by omega), ?_, ?_, by omega, ?_, by omega, IntWalk.i64_in _ (by omega), IntWalk.i64_in _ (by omega)⟩
 ·rw [IntWalk.i64_in _ (by omega)]; omega
 ·rw [Int.tdiv_eq_ediv_of_nonneg (by omega)]; omega
 ·rw [Int.tmod_eq_emod_of_nonneg (by omega)]; omega
theorem low_facts (R j : Nat) (hR : R < 3329) : ∃ y p : Nat, p = R / 2 ^ j % 2 ∧ (R : Int) / 2 ^ j = (y : Int) ∧ bits .and .i64 (y : Int) 1 = (p : Int) ∧ IntKind.u8.wrap (p : Int) = (p : Int) := by
 have hy : R / 2 ^ j < 3329 := Nat.lt_of_le_of_lt (Nat.div_le_self _ _) hR
 refine ⟨R / 2 ^ j, R / 2 ^ j % 2, rfl, by simp, and_oneB _ (by omega), ?_⟩
 rw [IntKind.wrap_u8']
 omega

set_option maxRecDepth 100000 in
set_option maxHeartbeats 4000000 in
theorem spack_any (d : Nat) (D : Int) (hD : D = (d : Int)) (h1 : 1 ≤ d) (h3 : d ≤ 12) (A : Array Value) (F : Nat → Int) (hF : Po F) (hA : A = ((gI F).map (Value.int .i64)).toArray) (w : World) :
  Calls Tryz.prog 59 #[.int .i64 D, .agg A] w fun r w' => ∃ v, r = .returned v ∧ New 5 w v (pkL d F) w' := by
 subst hD
 obtain ⟨ti, hti, hz0, hz1, hz2⟩ := info_parts infoS5
 have HF : Hid (Po F) := hF
 clear hF
 go_enter Tryz.func59, Tryz.ntmps59
 go_wp2_with (refine wpList_box_row (k := .i64) rfl 58 _ rfl (gI F) (by rw [← hA]; rfl) (gI_ne _) (poMax _) ?_)
 intro w1 ra bn sn
 rw [gI_length] at ra
 have hbw := bn
 have n1 : w.heap.size < w1.heap.size := by have := sn.out; omega
 clear bn sn hA
 go_wp2_with fail
 refine (packs_in d (by omega) (by omega) _).mono ?_
 rintro r w1 ⟨rfl, rfl⟩
 go_wp2_with fail
 refine (packSize_any d _ rfl (by omega) _).mono ?_
 rintro r w1 ⟨rfl, rfl⟩
 have HC : Hid (∀ k, k < 256 → w1.cell? ⟨w.heap.size, k, none⟩ = some (.int .i64 (F k))) := by
  show ∀ k, _
  intro k hk
  have := ra.cell (j := k) (by rw [gI_length]; exact hk)
  rw [gI_get _ hk] at this
  exact this
 obtain ⟨s, hs⟩ : ∃ s : Nat, s = 32 * d := ⟨_, rfl⟩
 rw [← hs]
 have HS : Hid (s = 32 * d) := hs
 have hsb : s ≤ 384 := by omega
 clear hs ra
 go_wp2_with (at_make; go_must (refine wpList_make_full _ rfl _ _ 22 rfl w1.heap.size 5 ti _ 1 Tryz.underlying22 hti hz0 hz1 _ _ _ _ s rfl rfl (by omega) (by omega) (by rw [hz2]; omega) (by unfold maxLen; omega) (Nat.le_refl _) ?_))
 intro w2 hown hgr
 have hN0 := New.made hown hgr
 have e0 : List.replicate s (0 : UInt8) = ppL d F (d * 0) := by rw [HS.out, Nat.mul_zero, ppL_zero]
 rw [e0] at hN0
 clear hown hgr e0
 go_wp2
 go_loopw [16] (fun iv wx => ∃ i : Nat, i ≤ 256 ∧ iv = .int .i64 (i : Int) ∧ New 5 w1 (.slice (some ⟨w1.heap.size, 0, none⟩) s s) (ppL d F (d * i)) wx) (fun iv _ => 256 - (intOf iv).toNat)
 case atStart => exact ⟨0, by omega, rfl, hN0⟩
 case round =>
  obtain ⟨i, hi, rfl, hN⟩ := hrel
  clear hN0
  by_cases hlt : i < 256
  ·have hd : decide ((i : Int) < 256) = true := decide_eq_true (by omega)
   have hiI : (i : Int) < 256 := by omega
   have hc := cellB11 (HC.out i hlt) hN.2
   have HIn : Hid (In64 (F i)) := HF.out.in64 i
   obtain ⟨fi, hfi⟩ : ∃ x : Int, x = F i := ⟨_, rfl⟩
   rw [← hfi] at hc HIn
   have HFi : Hid _ := hfi
   clear hfi
   go_wp2_with fail
   refine (zmod_any fi HIn.out _).mono ?_
   rintro e wq ⟨rfl, rfl⟩
   obtain ⟨R, hR⟩ : ∃ x : Nat, x = rsZ fi := ⟨_, rfl⟩
   have hRl : R < 3329 := by rw [hR]; exact rsZ_lt _
   rw [← hR]
   have HBt : Hid (∀ j, j < d → pkB d F (d * i + j) = R / 2 ^ j % 2) := by
    show ∀ j, _
    intro j hj
    rw [pk_at12 d F i j hj, hR, HFi.out]
   have hN1 : New 5 w1 (.slice (some ⟨w1.heap.size, 0, none⟩) s s) (ppL d F (d * i + 0)) wq := hN
   clear hN hR hc HIn
   rename World => wv
   go_wp2
   go_loopw [24] (fun jv wx => ∃ j : Nat, j ≤ d ∧ jv = .int .i64 (j : Int) ∧ New 5 w1 (.slice (some ⟨w1.heap.size, 0, none⟩) s s) (ppL d F (d * i + j)) wx) (fun jv _ => d - (intOf jv).toNat)
   case atStart => exact ⟨0, by omega, rfl, hN1⟩
   case round =>
    obtain ⟨j, hj, rfl, hN⟩ := hrel
    clear hN1
    by_cases hltj : j < d
    ·have hdj : decide ((j : Int) < (d : Int)) = true := decide_eq_true (by omega)
     have hjI : (j : Int) < (d : Int) := by omega
     obtain ⟨a, m, q, r, hm, hm2, hq, hr, hr8, x1, x2, x3, x4, x5, x6, x7, x8⟩ := place12_facts d i j h1 h3 hlt hltj
     obtain ⟨y, p, hp, y1, y2, y3⟩ := low_facts R j hRl
     rw [← HBt.out j hltj, ← hm] at hp
     have HM1 : Hid (m + 1 = d * i + (j + 1)) := by show _ = _; omega
     rw [← hm] at hN
     obtain ⟨g', c', ev, -, hcell, hfree, -⟩ := hN.store (j := q) (by rw [ppL_length]; omega)
     simp only [Value.slice.injEq, Option.some.injEq, Addr.mk.injEq, and_true, true_and] at ev
     obtain ⟨rfl, -, rfl⟩ := ev
     obtain ⟨x, hx⟩ : ∃ x : Nat, x = ((ppL d F m).getD (m / 8) 0).toNat := ⟨_, rfl⟩
     obtain ⟨P, z, f1, f2, f3, hz, hset⟩ := lay_facts d F m x p hx hp hm2
     rw [← hq] at hx hset
     rw [← hx] at hcell
     rw [← hr] at f1
     have HNx : Hid (∀ W : World, Below wr.heap.size wr W → New 5 w1 (.slice (some ⟨w1.heap.size, 0, none⟩) s s) (ppL d F (d * i + (j + 1))) (W.setCell ⟨w1.heap.size, q, none⟩ (.int .u8 (z : Int)))) := by
      intro W hW
      obtain ⟨g2, c2, ev2, -, -, -, hset2⟩ := (hN.kept hW).store (j := q) (by rw [ppL_length]; omega)
      simp only [Value.slice.injEq, Option.some.injEq, Addr.mk.injEq, and_true, true_and] at ev2
      obtain ⟨rfl, -, rfl⟩ := ev2
      have := hset2 (UInt8.ofNat z)
      rw [hset, UInt8.toNat_ofNat', Nat.mod_eq_of_lt (show z < 2 ^ 8 from hz), HM1.out] at this
      exact this
     have hqI : (q : Int) < (s : Int) := by have := HS.out; omega
     have hqs : q < s := by omega
     clear hN hm hm2 hq hr hp hx hset hz HM1
     go_wp2_with fail
     have hB : Below wr.heap.size wr wr.drew := (Below.refl _ _).drew
     refine wpF_begin 15 (w0 := wr) (by kernel_rfl) ?_
     refine wpF_p (hb := .inr hB) (i := 0) (oi := ⟨some 32, .move (.tmp 5), 22, "sample.go:118", #[], none⟩) (v := ?_) ?_ ?_
     rotate_left
     ·intro W; go_simp <;> with_reducible rfl
     try simp only [Act.put, putA, putB, putC]
     refine wpF_p (hb := .inr hB) (i := 1) (oi := ⟨some 33, .move (.tmp 9), 3, "sample.go:118", #[], none⟩) (v := ?_) ?_ ?_
     rotate_left
     ·intro W; go_simp <;> with_reducible rfl
     try simp only [Act.put, putA, putB, putC]
     refine wpF_p (hb := .inr hB) (i := 2) (oi := ⟨some 34, .binOp .quo 3 (.tmp 33) (.const (.int .i64 8)) 3, 3, "sample.go:118", #[⟨1, .data⟩], none⟩) (v := ?_) ?_ ?_
     rotate_left
     ·intro W; go_simp <;> with_reducible rfl
     try simp only [Act.put, putA, putB, putC]
     refine wpF_p (hb := .inr hB) (i := 3) (oi := ⟨some 35, .indexAddr 22 (.tmp 32) (.tmp 34), 0, "sample.go:118", #[⟨0, .data⟩, ⟨2, .data⟩], none⟩) (v := ?_) ?_ ?_
     rotate_left
     ·intro W; go_simp <;> with_reducible rfl
     try simp only [Act.put, putA, putB, putC]
     refine wpF_t (hb := hB) (i := 4) (oi := ⟨some 36, .load 5 (.tmp 35), 5, "sample.go:118", #[⟨3, .data⟩], none⟩) (v := ?_) ?_ ?_
     rotate_left
     ·intro W hW; have hcW := cellB11 hcell hW; go_simp <;> with_reducible rfl
     try simp only [Act.put, putA, putB, putC]
     refine wpF_p (hb := .inr hB) (i := 5) (oi := ⟨some 37, .move (.tmp 7), 3, "sample.go:118", #[], none⟩) (v := ?_) ?_ ?_
     rotate_left
     ·intro W; go_simp <;> with_reducible rfl
     try simp only [Act.put, putA, putB, putC]
     refine wpF_p (hb := .inr hB) (i := 6) (oi := ⟨some 38, .move (.tmp 8), 3, "sample.go:118", #[], none⟩) (v := ?_) ?_ ?_
     rotate_left
     ·intro W; go_simp <;> with_reducible rfl
     try simp only [Act.put, putA, putB, putC]
     refine wpF_p (hb := .inr hB) (i := 7) (oi := ⟨some 39, .binOp .shr 3 (.tmp 37) (.tmp 38) 3, 3, "sample.go:118", #[⟨5, .data⟩, ⟨6, .data⟩], none⟩) (v := ?_) ?_ ?_
     rotate_left
     ·intro W; go_simp <;> with_reducible rfl
     try simp only [Act.put, putA, putB, putC]
     refine wpF_p (hb := .inr hB) (i := 8) (oi := ⟨some 40, .binOp .and 3 (.tmp 39) (.const (.int .i64 1)) 3, 3, "sample.go:118", #[⟨7, .data⟩], none⟩) (v := ?_) ?_ ?_
     rotate_left
     ·intro W; go_simp <;> with_reducible rfl
     try simp only [Act.put, putA, putB, putC]
     refine wpF_p (hb := .inr hB) (i := 9) (oi := ⟨some 41, .convert 3 5 (.tmp 40), 5, "sample.go:118", #[⟨8, .data⟩], none⟩) (v := ?_) ?_ ?_
     rotate_left
     ·intro W; go_simp <;> with_reducible rfl
     try simp only [Act.put, putA, putB, putC]
     refine wpF_p (hb := .inr hB) (i := 10) (oi := ⟨some 42, .move (.tmp 9), 3, "sample.go:118", #[], none⟩) (v := ?_) ?_ ?_
     rotate_left
     ·intro W; go_simp <;> with_reducible rfl
     try simp only [Act.put, putA, putB, putC]
     refine wpF_p (hb := .inr hB) (i := 11) (oi := ⟨some 43, .binOp .rem 3 (.tmp 42) (.const (.int .i64 8)) 3, 3, "sample.go:118", #[⟨10, .data⟩], none⟩) (v := ?_) ?_ ?_
     rotate_left
     ·intro W; go_simp <;> with_reducible rfl
     try simp only [Act.put, putA, putB, putC]
     refine wpF_p (hb := .inr hB) (i := 12) (oi := ⟨some 44, .binOp .shl 5 (.tmp 41) (.tmp 43) 3, 5, "sample.go:118", #[⟨9, .data⟩, ⟨11, .data⟩], none⟩) (v := ?_) ?_ ?_
     rotate_left
     ·intro W; go_simp <;> with_reducible rfl
     try simp only [Act.put, putA, putB, putC]
     refine wpF_p (hb := .inr hB) (i := 13) (oi := ⟨some 45, .binOp .or 5 (.tmp 36) (.tmp 44) 5, 5, "sample.go:118", #[⟨4, .data⟩, ⟨12, .data⟩], none⟩) (v := ?_) ?_ ?_
     rotate_left
     ·intro W; go_simp <;> with_reducible rfl
     try simp only [Act.put, putA, putB, putC]
     refine wpF_p (hb := .inr hB) (i := 14) (oi := ⟨some 46, .indexAddr 22 (.tmp 32) (.tmp 34), 0, "sample.go:118", #[⟨0, .data⟩, ⟨2, .data⟩, ⟨0, .phase⟩, ⟨1, .phase⟩, ⟨2, .phase⟩, ⟨3, .phase⟩, ⟨4, .phase⟩, ⟨5, .phase⟩, ⟨6, .phase⟩, ⟨7, .phase⟩, ⟨8, .phase⟩, ⟨9, .phase⟩, ⟨10, .phase⟩, ⟨11, .phase⟩, ⟨12, .phase⟩, ⟨13, .phase⟩], none⟩) (v := ?_) ?_ ?_
     rotate_left
     ·intro W; go_simp <;> with_reducible rfl
     try simp only [Act.put, putA, putB, putC]
     refine wpF_do (i := 15) (o := ⟨none, .store 5 (.tmp 46) (.tmp 45), 0, "sample.go:118", #[⟨14, .data⟩, ⟨13, .data⟩, ⟨0, .phase⟩, ⟨1, .phase⟩, ⟨2, .phase⟩, ⟨3, .phase⟩, ⟨4, .phase⟩, ⟨5, .phase⟩, ⟨6, .phase⟩, ⟨7, .phase⟩, ⟨8, .phase⟩, ⟨9, .phase⟩, ⟨10, .phase⟩, ⟨11, .phase⟩, ⟨12, .phase⟩, ⟨13, .phase⟩], none⟩) (by kernel_rfl) rfl (by rfl) fun K hK => ?_
     go_simp
     refine hK.out _ _ (.inl rfl) ?_
     clear hK K
     try simp only [Act.put, putA, putB, putC]
     refine wpF_done (by kernel_rfl) ?_
     have hN2 := HNx.out _ hB
     go_wp2
     go_roundw
     case rel => exact ⟨j + 1, by omega, by go_num, hN2⟩
     case measure => simp [intOf] <;> omega
    ·have hje : j = d := by omega
     have hdj : decide ((j : Int) < (d : Int)) = false := decide_eq_false (by omega)
     have hjI : (d : Int) ≤ (j : Int) := by omega
     rw [hje, ← Nat.mul_succ] at hN
     clear hje
     go_wp2
     go_roundw
     case rel => exact ⟨i + 1, by omega, by go_num, hN⟩
     case measure => simp [intOf] <;> omega
  ·have hie : i = 256 := by omega
   have hd : decide ((i : Int) < 256) = false := decide_eq_false (by omega)
   have hiI : (256 : Int) ≤ (i : Int) := by omega
   rw [hie, ppL_done] at hN
   have hOf := hN.from hbw
   clear hie hN
   go_wp2
   go_ret
   exact ⟨_, rfl, hOf⟩
end Go.Proofs.YtmhbjaampobcbaaGreatDoor
