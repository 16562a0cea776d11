/- What the document's own bits of bytes, and rounded polynomials, are: contracts of the reference of layer 12. -/
import Derived.Test.YtmhbjaampobcbaaGreatDoorNum
import Derived.Test.YtmhbjaampobcbaaGreatDoorRfa
import Derived.Test.YtmhbjaampobcbaaGreatDoorBase
namespace Go.Proofs.YtmhbjaampobcbaaGreatDoor
open Go.ChangeShapes Go.WideShapes Go.ChangeAt Go.RowKit
set_option linter.unusedSimpArgs false
set_option linter.unusedVariables false

theorem infoI12 : (Tryz.prog.info? 3).map (fun i => (i.zero, i.size, i.bytes)) = some (some (.int .i64 0), 1, 8) := by kernel_rfl
theorem litI1 {k : IntKind} {w : World} {e : TypeId} (x : Int) : RdI k (w.alloc (.cells #[.int k x] e)) (.slice (some ⟨w.heap.size, 0, none⟩) 1 1) [x] :=
 (NewI.lit (k := k) (e := e) (w := w) [x] rfl rfl rfl (by simp [maxLen])).rd
theorem half_fact (x j : Nat) (hx : x < 9223372036854775807) : ∃ y z q : Nat, y = x / 2 ^ j ∧ z = x / 2 ^ (j + 1) ∧ q = x / 2 ^ j % 2 ∧ y < 9223372036854775807 ∧ ((y : Nat) : Int).tmod 2 = (q : Int) ∧ IntKind.i64.wrap (q : Int) = (q : Int) ∧ ((y : Nat) : Int).tdiv 2 = (z : Int) ∧ IntKind.i64.wrap (z : Int) = (z : Int) ∧ (y : Int) / 2 = (z : Int) := by
 have h1 : x / 2 ^ j ≤ x := Nat.div_le_self _ _
 have h2 : x / 2 ^ (j + 1) = x / 2 ^ j / 2 := by rw [Nat.pow_succ, Nat.div_div_eq_div_mul]
 rw [h2]
 generalize x / 2 ^ j = y at h1
 refine ⟨_, _, _, rfl, rfl, rfl, by omega, ?_, ?_, ?_, ?_, by omega⟩
 ·rw [Int.tmod_eq_emod_of_nonneg (by omega)]; omega
 ·exact IntWalk.i64_in _ (by omega)
 ·rw [Int.tdiv_eq_ediv_of_nonneg (by omega)]; omega
 ·exact IntWalk.i64_in _ (by omega)

set_option maxRecDepth 100000 in
set_option maxHeartbeats 4000000 in
theorem bits12_any (v : Value) (b : List UInt8) (w : World) (hb : Rd w v b) (hbl : b.length ≤ 1000000) :
  Calls Tryz.prog 29 #[v] w fun e w' => ∃ r, e = .returned r ∧ NewI .i64 3 w r (fP (btY b) (8 * b.length)) w' := by
 obtain ⟨ab, cb, rfl, -, hmb, -, -⟩ := id hb
 unfold maxLen at hmb
 obtain ⟨L, hL⟩ : ∃ L : Nat, L = b.length := ⟨_, rfl⟩
 rw [← hL] at hb hbl ⊢
 have HL : Hid _ := hL
 have HB : Hid (Rd w (.slice ab L cb) b) := hb
 have hN0 : NewI .i64 3 w (.slice none 0 0) (fP (btY b) (8 * 0)) w := NewI.start w
 clear hb hL
 go_enter Tryz.func29, Tryz.ntmps29
 go_wp2
 go_loopw [3, 4] (fun v iv wx => ∃ i : Nat, i ≤ L ∧ iv = .int .i64 (i : Int) ∧ NewI .i64 3 w v (fP (btY b) (8 * i)) wx) (fun _ iv _ => L - (intOf iv).toNat)
 case atStart => exact ⟨0, by omega, rfl, hN0⟩
 case round =>
  obtain ⟨i, hi, rfl, hN⟩ := hrel
  clear hN0
  by_cases hlt : i < L
  ·have hd : decide ((i : Int) < (L : Int)) = true := decide_eq_true (by omega)
   have hiI : (i : Int) < (L : Int) := by omega
   obtain ⟨gb, ob, c', ev, -, hc, -⟩ := (Rd.kept HB.out hN.2).cellAt (i := i) (by rw [← HL.out]; exact hlt)
   simp only [Value.slice.injEq] at ev
   obtain ⟨rfl, -, rfl⟩ := ev
   obtain ⟨x, hx⟩ : ∃ x : Nat, x = (b.getD i 0).toNat := ⟨_, rfl⟩
   have hx256 : x < 256 := by rw [hx]; exact (b.getD i 0).toNat_lt
   rw [← hx] at hc
   have hxw : IntKind.i64.wrap (x : Int) = (x : Int) := IntWalk.i64_in _ (by omega)
   have HBt : Hid (∀ j, j < 8 → btY b (8 * i + j) = x / 2 ^ j % 2) := by
    show ∀ j, _
    intro j hj
    unfold btY
    rw [show (8 * i + j) / 8 = i by omega, show (8 * i + j) % 8 = j by omega, hx]
   have hN1 : NewI .i64 3 w _ (fP (btY b) (8 * i + 0)) wr := hN
   have hx0 : x = x / 2 ^ 0 := by simp
   have HX0 : Hid _ := hx0
   clear hN hx hx0
   go_wp2
   go_loopw [3, 5, 6] (fun v nv jv wx => ∃ j : Nat, j ≤ 8 ∧ jv = .int .i64 (j : Int) ∧ nv = .int .i64 ((x / 2 ^ j : Nat) : Int) ∧ NewI .i64 3 w v (fP (btY b) (8 * i + j)) wx) (fun _ _ jv _ => 8 - (intOf jv).toNat)
   case atStart => exact ⟨0, by omega, rfl, by rw [← HX0.out], hN1⟩
   case round =>
    obtain ⟨j, hj, rfl, rfl, hN⟩ := hrel
    clear hN1 hc
    by_cases hltj : j < 8
    ·have hdj : decide ((j : Int) < 8) = true := decide_eq_true (by omega)
     have hjI : (j : Int) < 8 := by omega
     obtain ⟨y, z, q, hy, hz, hq, hyl, y1, y2, y3, y4, y5⟩ := half_fact x j (by omega)
     rw [← hy]
     have HNx : Hid (fP (btY b) (8 * i + j) ++ [((q : Nat) : Int)] = fP (btY b) (8 * i + (j + 1))) := by
      show _ = _
      rw [hq, ← HBt.out j hltj, fP_next]
      rfl
     have HLn : Hid ((fP (btY b) (8 * i + j)).length ≤ 8000010) := by
      show _ ≤ _
      rw [fP_length]
      omega
     have HZ : Hid _ := hz
     have hLt : RdI .i64 (wr.alloc (.cells #[.int .i64 (q : Int)] 3)) (.slice (some ⟨wr.heap.size, 0, none⟩) 1 1) [(q : Int)] := litI1 _
     clear hy hz hq
     go_wp2_with (at_builtin; go_must (refine wpList_append_newI (k := .i64) (w := w) rfl _ _ 30 rfl 3 Tryz.underlying30 8 infoI12 _ _ rfl (hN.alloc _) _ _ rfl hLt (by have := HLn.out; simp only [List.length_singleton]; omega) (by have := HLn.out; simp only [List.length_singleton]; omega) ?_))
     intro v6 w6 hN6 _
     rw [HNx.out] at hN6
     clear hN hLt
     go_wp2
     go_roundw
     case rel => exact ⟨j + 1, by omega, by go_num, by rw [← HZ.out], hN6⟩
     case measure => simp [intOf] <;> omega
    ·have hje : j = 8 := by omega
     have hdj : decide ((j : Int) < 8) = false := decide_eq_false (by omega)
     have hjI : (8 : Int) ≤ (j : Int) := by omega
     rw [hje, show 8 * i + 8 = 8 * (i + 1) by omega] at hN
     generalize x / 2 ^ j = y
     clear hje
     go_wp2
     go_roundw
     case rel => exact ⟨i + 1, by omega, by go_num, hN⟩
     case measure => simp [intOf] <;> omega
  ·have hie : i = L := by omega
   have hd : decide ((i : Int) < (L : Int)) = false := decide_eq_false (by omega)
   have hiI : (L : Int) ≤ (i : Int) := by omega
   rw [hie] at hN
   clear hie
   go_wp2
   go_ret
   exact ⟨_, rfl, hN⟩

theorem compZ_all (d x : Int) (hx : In64 x) (w : World) :
  Calls Tryz.prog 111 #[.int .i64 d, .int .i64 x] w fun e w' => e = .returned (.int .i64 ((cpA d x : Nat) : Int)) ∧ w' = w := by
 by_cases h : 1 ≤ d ∧ d ≤ 11
 ·unfold cpA
  rw [if_pos h]
  exact compZ_any d.toNat d x (by omega) (by omega) (by omega) hx w
 ·unfold cpA
  rw [if_neg h]
  exact compZ_out d x (by omega) w

set_option maxRecDepth 100000 in
set_option maxHeartbeats 2000000 in
theorem squeeze12_any (d : Int) (A : Array Value) (F : Nat → Int) (hF : Po F) (hA : A = ((gI F).map (Value.int .i64)).toArray) (w : World) :
  Calls Tryz.prog 62 #[.int .i64 d, .agg A] w fun e w' => e = .returned (.agg ((gI fun k => ((cpA d (F k) : Nat) : Int)).map (Value.int .i64)).toArray) ∧ Below w.heap.size w w' := by
 have HF : Hid (Po F) := hF
 clear hF
 go_enter Tryz.func62, Tryz.ntmps62
 go_wp2_with (refine wpList_box_row (k := .i64) rfl 57 _ rfl (gI F) (by rw [← hA]; rfl) (gI_ne _) (poMax _) ?_)
 intro w1 r1 b1 s1
 rw [gI_length] at r1
 go_wp2_with (refine wpList_alloc_row (k := .i64) rfl 57 rfl (gI fun _ => 0) (alloc_po _) (gI_ne _) (poMax _) ?_)
 intro w2 r2 b2 s2
 rw [gI_length] at r2
 replace r1 := r1.kept b2
 have hbw := stepB b1 b2
 have n1 : w.heap.size < w1.heap.size := by have := s1.out; omega
 clear b1 b2 s1 s2 hA
 go_wp2
 go_loopw [5] (fun iv wx => ∃ (i : Nat) (G : Nat → Int), i ≤ 256 ∧ iv = .int .i64 (i : Int) ∧ Hid (∀ k, k < 256 → G k = if k < i then ((cpA d (F k) : Nat) : Int) else F k) ∧ RowAt .i64 57 w.heap.size 256 (gI G) wx ∧ RowAt .i64 57 w1.heap.size 256 (gI fun _ => 0) wx ∧ Below w.heap.size w wx) (fun iv _ => 256 - (intOf iv).toNat)
 case atStart => exact ⟨0, F, by omega, rfl, (by show ∀ k, _; intro k _; rw [if_neg (by omega)]), r1, r2, hbw⟩
 case round =>
  obtain ⟨i, G, hi, rfl, HG, ra, rz, hbx⟩ := hrel
  clear r1 r2 hbw
  by_cases hlt : i < 256
  ·have hd : decide ((i : Int) < 256) = true := decide_eq_true (by omega)
   have hiI : (i : Int) < 256 := by omega
   have hc := ra.cell (j := i) (by rw [gI_length]; exact hlt)
   rw [gI_get _ hlt, HG.out i hlt, if_neg (by omega)] at hc
   have hf := ra.free i
   have r5 := ra.set i ((cpA d (F i) : Nat) : Int)
   rw [gI_set] at r5
   have hw5 := Wrote.set w.heap.size i wr (.int .i64 ((cpA d (F i) : Nat) : Int))
   have R5 : Hid _ := r5
   have RZ : Hid _ := rz.wrote hw5 (by omega)
   have HB5 : Hid _ := hw5.below _ _ (Nat.le_refl _) hbx
   have HG5 : Hid (∀ k, k < 256 → (if k = i then ((cpA d (F i) : Nat) : Int) else G k) = if k < i + 1 then ((cpA d (F k) : Nat) : Int) else F k) := by
    show ∀ k, _
    intro k hk
    by_cases h : k = i
    ·rw [if_pos h, if_pos (by omega), h]
    ·rw [if_neg h, HG.out k hk]
     by_cases h2 : k < i
     ·rw [if_pos h2, if_pos (by omega)]
     ·rw [if_neg h2, if_neg (by omega)]
   clear r5 hw5 ra rz hbx
   go_wp2_with fail
   refine (compZ_all d (F i) (HF.out.in64 i) _).mono ?_
   rintro e w3 ⟨rfl, rfl⟩
   generalize cpA d (F i) = z at R5 RZ HB5 HG5
   go_wp2
   go_roundw
   case rel => exact ⟨i + 1, _, by omega, by go_num, HG5, R5.out, RZ.out, HB5.out⟩
   case measure => simp [intOf] <;> omega
  ·have hie : i = 256 := by omega
   have hd : decide ((i : Int) < 256) = false := decide_eq_false (by omega)
   have hiI : (256 : Int) ≤ (i : Int) := by omega
   have HE : Hid (gI G = gI fun k => ((cpA d (F k) : Nat) : Int)) := by
    show _ = _
    exact gI_congr fun k hk => by rw [HG.out k hk, if_pos (by omega)]
   rw [HE.out] at ra
   clear hie
   go_wp2_with (first | refine wpList_load_row rfl 57 _ rfl rfl ra _ Tryz.underlying57 rfl (poInfo _) ?_ | (refine wpList_store_row rfl 57 _ _ rfl (gI fun k => ((cpA d (F k) : Nat) : Int)) rfl rfl rz (by rw [gI_length, gI_length]) (poInfo _) ?_; intro w7 r7 hw7))
   refine bodyPost_row (k := .i64) rfl rfl rfl r7 Tryz.underlying57 rfl (poInfo _) ?_
   exact ⟨rfl, hw7.below _ _ (by omega) hbx⟩

theorem decoZ_all (d x : Int) (hx : In64 x) (w : World) :
  Calls Tryz.prog 112 #[.int .i64 d, .int .i64 x] w fun e w' => e = .returned (.int .i64 ((dcA d x : Nat) : Int)) ∧ w' = w := by
 by_cases h : 1 ≤ d ∧ d ≤ 11
 ·unfold dcA
  rw [if_pos h]
  exact decoZ_any d.toNat d x (by omega) (by omega) (by omega) hx w
 ·unfold dcA
  rw [if_neg h]
  exact decoZ_out d x (by omega) w

set_option maxRecDepth 100000 in
set_option maxHeartbeats 2000000 in
theorem spread12_any (d : Int) (A : Array Value) (F : Nat → Int) (hF : Po F) (hA : A = ((gI F).map (Value.int .i64)).toArray) (w : World) :
  Calls Tryz.prog 65 #[.int .i64 d, .agg A] w fun e w' => e = .returned (.agg ((gI fun k => ((dcA d (F k) : Nat) : Int)).map (Value.int .i64)).toArray) ∧ Below w.heap.size w w' := by
 have HF : Hid (Po F) := hF
 clear hF
 go_enter Tryz.func65, Tryz.ntmps65
 go_wp2_with (refine wpList_box_row (k := .i64) rfl 57 _ rfl (gI F) (by rw [← hA]; rfl) (gI_ne _) (poMax _) ?_)
 intro w1 r1 b1 s1
 rw [gI_length] at r1
 go_wp2_with (refine wpList_alloc_row (k := .i64) rfl 57 rfl (gI fun _ => 0) (alloc_po _) (gI_ne _) (poMax _) ?_)
 intro w2 r2 b2 s2
 rw [gI_length] at r2
 replace r1 := r1.kept b2
 have hbw := stepB b1 b2
 have n1 : w.heap.size < w1.heap.size := by have := s1.out; omega
 clear b1 b2 s1 s2 hA
 go_wp2
 go_loopw [5] (fun iv wx => ∃ (i : Nat) (G : Nat → Int), i ≤ 256 ∧ iv = .int .i64 (i : Int) ∧ Hid (∀ k, k < 256 → G k = if k < i then ((dcA d (F k) : Nat) : Int) else F k) ∧ RowAt .i64 57 w.heap.size 256 (gI G) wx ∧ RowAt .i64 57 w1.heap.size 256 (gI fun _ => 0) wx ∧ Below w.heap.size w wx) (fun iv _ => 256 - (intOf iv).toNat)
 case atStart => exact ⟨0, F, by omega, rfl, (by show ∀ k, _; intro k _; rw [if_neg (by omega)]), r1, r2, hbw⟩
 case round =>
  obtain ⟨i, G, hi, rfl, HG, ra, rz, hbx⟩ := hrel
  clear r1 r2 hbw
  by_cases hlt : i < 256
  ·have hd : decide ((i : Int) < 256) = true := decide_eq_true (by omega)
   have hiI : (i : Int) < 256 := by omega
   have hc := ra.cell (j := i) (by rw [gI_length]; exact hlt)
   rw [gI_get _ hlt, HG.out i hlt, if_neg (by omega)] at hc
   have hf := ra.free i
   have r5 := ra.set i ((dcA d (F i) : Nat) : Int)
   rw [gI_set] at r5
   have hw5 := Wrote.set w.heap.size i wr (.int .i64 ((dcA d (F i) : Nat) : Int))
   have R5 : Hid _ := r5
   have RZ : Hid _ := rz.wrote hw5 (by omega)
   have HB5 : Hid _ := hw5.below _ _ (Nat.le_refl _) hbx
   have HG5 : Hid (∀ k, k < 256 → (if k = i then ((dcA d (F i) : Nat) : Int) else G k) = if k < i + 1 then ((dcA d (F k) : Nat) : Int) else F k) := by
    show ∀ k, _
    intro k hk
    by_cases h : k = i
    ·rw [if_pos h, if_pos (by omega), h]
    ·rw [if_neg h, HG.out k hk]
     by_cases h2 : k < i
     ·rw [if_pos h2, if_pos (by omega)]
     ·rw [if_neg h2, if_neg (by omega)]
   clear r5 hw5 ra rz hbx
   go_wp2_with fail
   refine (decoZ_all d (F i) (HF.out.in64 i) _).mono ?_
   rintro e w3 ⟨rfl, rfl⟩
   generalize dcA d (F i) = z at R5 RZ HB5 HG5
   go_wp2
   go_roundw
   case rel => exact ⟨i + 1, _, by omega, by go_num, HG5, R5.out, RZ.out, HB5.out⟩
   case measure => simp [intOf] <;> omega
  ·have hie : i = 256 := by omega
   have hd : decide ((i : Int) < 256) = false := decide_eq_false (by omega)
   have hiI : (256 : Int) ≤ (i : Int) := by omega
   have HE : Hid (gI G = gI fun k => ((dcA d (F k) : Nat) : Int)) := by
    show _ = _
    exact gI_congr fun k hk => by rw [HG.out k hk, if_pos (by omega)]
   rw [HE.out] at ra
   clear hie
   go_wp2_with (first | refine wpList_load_row rfl 57 _ rfl rfl ra _ Tryz.underlying57 rfl (poInfo _) ?_ | (refine wpList_store_row rfl 57 _ _ rfl (gI fun k => ((dcA d (F k) : Nat) : Int)) rfl rfl rz (by rw [gI_length, gI_length]) (poInfo _) ?_; intro w7 r7 hw7))
   refine bodyPost_row (k := .i64) rfl rfl rfl r7 Tryz.underlying57 rfl (poInfo _) ?_
   exact ⟨rfl, hw7.below _ _ (by omega) hbx⟩
end Go.Proofs.YtmhbjaampobcbaaGreatDoor
