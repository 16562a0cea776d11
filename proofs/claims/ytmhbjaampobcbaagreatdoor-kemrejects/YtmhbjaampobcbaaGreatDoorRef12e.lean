/- What the document's own packed polynomials are: contracts of the reference of layer 12, fifth part. -/
import Derived.Test.YtmhbjaampobcbaaGreatDoorRef12d
namespace Go.Proofs.YtmhbjaampobcbaaGreatDoor
open Go.ChangeShapes Go.WideShapes Go.ChangeAt Go.RowKit
set_option linter.unusedSimpArgs false
set_option linter.unusedVariables false

theorem infoB12 : (Tryz.prog.info? 5).map (fun i => (i.zero, i.size, i.bytes)) = some (some (.int .u8 0), 1, 1) := by kernel_rfl
theorem pk_at (d : Nat) (F : Nat → Int) (i j : Nat) (hj : j < d) : pkB d F (d * i + j) = rsZ (F i) / 2 ^ j % 2 := by
 have hd : 0 < d := by omega
 unfold pkB
 rw [Nat.mul_add_div hd, Nat.div_eq_of_lt hj, Nat.add_zero, Nat.mul_add_mod, Nat.mod_eq_of_lt hj]
theorem pk_len (d i : Nat) (hd : d ≤ 12) (hi : i ≤ 256) : d * i ≤ 3072 := by
 have := Nat.mul_le_mul hd hi
 omega

set_option maxRecDepth 100000 in
set_option maxHeartbeats 4000000 in
theorem pack12_any (d : Nat) (D : Int) (hD : D = (d : Int)) (h1 : 1 ≤ d) (h3 : d ≤ 12) (A : Array Value) (F : Nat → Int) (hF : Po F) (hA : A = ((gI F).map (Value.int .i64)).toArray) (w : World) :
  Calls Tryz.prog 52 #[.int .i64 D, .agg A] w fun r w' => ∃ v, r = .returned v ∧ New 5 w v (pkL d F) w' := by
 subst hD
 have HF : Hid (Po F) := hF
 have c1 : decide ((d : Int) < 1) = false := decide_eq_false (by omega)
 have c2 : decide (12 < (d : Int)) = false := decide_eq_false (by omega)
 have c3 : (1 : Int) ≤ (d : Int) := by omega
 have c4 : (d : Int) ≤ 12 := by omega
 clear hF
 go_enter Tryz.func52, Tryz.ntmps52
 go_wp2_with (refine wpList_box_row (k := .i64) rfl 57 _ rfl (gI F) (by rw [← hA]; rfl) (gI_ne _) (poMax _) ?_)
 intro w1 ra bn sn
 rw [gI_length] at ra
 have hbw := bn
 clear bn sn hA
 have HC : Hid (∀ k, k < 256 → w1.cell? ⟨w.heap.size, k, none⟩ = some (.int .i64 (F k))) := by
  show ∀ k, _
  intro k hk
  have := ra.cell (j := k) (by rw [gI_length]; exact hk)
  rw [gI_get _ hk] at this
  exact this
 have hN0 : NewI .i64 3 w1 (.slice none 0 0) (fP (pkB d F) (d * 0)) w1 := NewI.start w1
 clear ra
 go_wp2
 go_loopw [5, 6] (fun v iv wx => ∃ i : Nat, i ≤ 256 ∧ iv = .int .i64 (i : Int) ∧ NewI .i64 3 w1 v (fP (pkB d F) (d * i)) wx) (fun _ iv _ => 256 - (intOf iv).toNat)
 case atStart => exact ⟨0, by omega, rfl, hN0⟩
 case round =>
  obtain ⟨i, hi, rfl, hN⟩ := hrel
  clear hN0
  by_cases hlt : i < 256
  ·have hd : decide ((i : Int) < 256) = true := decide_eq_true (by omega)
   have hiI : (i : Int) < 256 := by omega
   have hc := cellB11 (HC.out i hlt) hN.2
   have HIn : Hid (In64 (F i)) := HF.out.in64 i
   obtain ⟨fi, hfi⟩ : ∃ x : Int, x = F i := ⟨_, rfl⟩
   rw [← hfi] at hc HIn
   have HFi : Hid _ := hfi
   clear hfi
   go_wp2_with fail
   refine (modZ_any fi HIn.out _).mono ?_
   rintro e wq ⟨rfl, rfl⟩
   obtain ⟨x, hx⟩ : ∃ x : Nat, x = rsZ fi := ⟨_, rfl⟩
   have hxl : x < 3329 := by rw [hx]; exact rsZ_lt _
   rw [← hx]
   have HBt : Hid (∀ j, j < d → pkB d F (d * i + j) = x / 2 ^ j % 2) := by
    show ∀ j, _
    intro j hj
    rw [pk_at d F i j hj, hx, HFi.out]
   have hN1 : NewI .i64 3 w1 _ (fP (pkB d F) (d * i + 0)) wq := hN
   have HX0 : Hid (x = x / 2 ^ 0) := by show _ = _; simp
   clear hN hx hc HIn
   rename World => wv
   go_wp2
   go_loopw [5, 7, 8] (fun v nv jv wx => ∃ j : Nat, j ≤ d ∧ jv = .int .i64 (j : Int) ∧ nv = .int .i64 ((x / 2 ^ j : Nat) : Int) ∧ NewI .i64 3 w1 v (fP (pkB d F) (d * i + j)) wx) (fun _ _ jv _ => d - (intOf jv).toNat)
   case atStart => exact ⟨0, by omega, rfl, by rw [← HX0.out], hN1⟩
   case round =>
    obtain ⟨j, hj, rfl, rfl, hN⟩ := hrel
    clear hN1
    by_cases hltj : j < d
    ·have hdj : decide ((j : Int) < (d : Int)) = true := decide_eq_true (by omega)
     have hjI : (j : Int) < (d : Int) := by omega
     obtain ⟨y, z, q, hy, hz, hq, hyl, y1, y2, y3, y4, y5⟩ := half_fact x j (by omega)
     rw [← hy]
     have HNx : Hid (fP (pkB d F) (d * i + j) ++ [((q : Nat) : Int)] = fP (pkB d F) (d * i + (j + 1))) := by
      show _ = _
      rw [hq, ← HBt.out j hltj, fP_next]
      rfl
     have HLn : Hid ((fP (pkB d F) (d * i + j)).length ≤ 8000010) := by
      show _ ≤ _
      rw [fP_length]
      have := pk_len d i h3 hi
      omega
     have HZ : Hid _ := hz
     have hLt : RdI .i64 (wr.alloc (.cells #[.int .i64 (q : Int)] 3)) (.slice (some ⟨wr.heap.size, 0, none⟩) 1 1) [(q : Int)] := litI1 _
     clear hy hz hq
     go_wp2_with (at_builtin; go_must (refine wpList_append_newI (k := .i64) (w := w1) rfl _ _ 30 rfl 3 Tryz.underlying30 8 infoI12 _ _ rfl (hN.alloc _) _ _ rfl hLt (by have := HLn.out; simp only [List.length_singleton]; omega) (by have := HLn.out; simp only [List.length_singleton]; omega) ?_))
     intro v6 w6 hN6 _
     rw [HNx.out] at hN6
     clear hN hLt
     go_wp2
     go_roundw
     case rel => exact ⟨j + 1, by omega, by go_num, by rw [← HZ.out], hN6⟩
     case measure => simp [intOf] <;> omega
    ·have hje : j = d := by omega
     have hdj : decide ((j : Int) < (d : Int)) = false := decide_eq_false (by omega)
     have hjI : (d : Int) ≤ (j : Int) := by omega
     rw [hje, ← Nat.mul_succ] at hN
     generalize x / 2 ^ j = y
     clear hje
     go_wp2
     go_roundw
     case rel => exact ⟨i + 1, by omega, by go_num, hN⟩
     case measure => simp [intOf] <;> omega
  ·have hie : i = 256 := by omega
   have hd : decide ((i : Int) < 256) = false := decide_eq_false (by omega)
   have hiI : (256 : Int) ≤ (i : Int) := by omega
   rw [hie] at hN
   clear hie HC
   have hne : fP (pkB d F) (d * 256) ≠ [] := by
    intro e
    have := fP_length (pkB d F) (d * 256)
    rw [e] at this
    simp at this
    omega
   obtain ⟨gl, cl, rfl, hgl, rl⟩ := hN.row hne
   have hb2 := stepB hbw hN.2
   obtain ⟨LL, hLL⟩ : ∃ LL : Nat, LL = d * 256 := ⟨_, rfl⟩
   rw [fP_length, ← hLL]
   rw [← hLL] at rl
   have HLL : Hid (LL = d * 256) := hLL
   have hLm : LL ≤ 3072 := by omega
   rename World => wO
   have HC : Hid (∀ m, m < LL → wO.cell? ⟨gl, m, none⟩ = some (.int .i64 ((pkB d F m : Nat) : Int))) := by
    show ∀ m, _
    intro m hm
    have := rl.cell (j := m) (by rw [fP_length]; exact hm)
    rw [fP_get _ _ _ hm] at this
    exact this
   have hO0 : New 5 wO (.slice none 0 0) (pkP d F 0) wO := New.start wO
   clear hN hne hLL rl
   go_wp2
   go_loopw [9, 10] (fun v iv wx => ∃ m : Nat, 8 * m ≤ LL ∧ iv = .int .i64 ((8 * m : Nat) : Int) ∧ New 5 wO v (pkP d F m) wx) (fun _ iv _ => LL - (intOf iv).toNat)
   case atStart => exact ⟨0, by omega, rfl, hO0⟩
   case round =>
    obtain ⟨m, hm, rfl, hO⟩ := hrel
    clear hO0
    obtain ⟨i8, hi8⟩ : ∃ i8 : Nat, i8 = 8 * m := ⟨_, rfl⟩
    rw [← hi8]
    by_cases hltm : i8 < LL
    ·have hdm : decide ((i8 : Int) < (LL : Int)) = true := decide_eq_true (by omega)
     have hmI : (i8 : Int) < (LL : Int) := by omega
     have h8 : i8 + 8 ≤ LL := by have := HLL.out; omega
     have HI8 : Hid _ := hi8
     have HC2 : Hid (∀ m, m < LL → wr.cell? ⟨gl, m, none⟩ = some (.int .i64 ((pkB d F m : Nat) : Int))) := by
      show ∀ m, _
      intro m hm
      exact cellB11 (HC.out m hm) hO.2
     rename World => wv
     clear hi8 hm
     go_wp2
     go_loop [11, 12] (fun nv jv => ∃ t N : Nat, t ≤ 8 ∧ jv = .int .i64 ((t : Int) - 1) ∧ nv = .int .i64 (N : Int) ∧ Hid (N = bs (pkB d F) (i8 + t) (8 - t))) (fun _ jv => (intOf jv + 1).toNat)
     case atStart => exact ⟨8, 0, by omega, rfl, rfl, (by show _ = _; rfl)⟩
     case round =>
      obtain ⟨t, N, ht, rfl, rfl, HN⟩ := hrel
      by_cases h0 : t = 0
      ·have hj1 : ((t : Int) - 1) = -1 := by omega
       rw [hj1]
       have hN256 : N < 256 := by
        have h := bs_lt (pkB d F) (pkB_lt d F) (8 - t) (i8 + t)
        rw [← HN.out, h0] at h
        simpa using h
       have hu8 : IntKind.u8.wrap (N : Int) = (N : Int) := by rw [IntKind.wrap_u8']; omega
       have HY : Hid (N = (pkY d F m).toNat) := by
        show _ = _
        unfold pkY
        rw [UInt8.toNat_ofNat', ← HI8.out]
        have hn := HN.out
        rw [h0] at hn
        show N = bs (pkB d F) i8 8 % 256
        have : bs (pkB d F) i8 8 = N := hn.symm
        omega
       have hLt : Rd (wv.alloc (.cells #[.int .u8 (N : Int)] 5)) (.slice (some ⟨wv.heap.size, 0, none⟩) 1 1) [pkY d F m] := Rd.lit1 _ (by rw [← HY.out])
       have HNx : Hid _ := pkP_next d F m
       have HLn : Hid ((pkP d F m).length ≤ 4000) := by
        show _ ≤ _
        rw [pkP_length]
        have := HI8.out
        omega
       clear h0 hj1 ht HY
       go_wp2_with (at_builtin; go_must (refine wpList_append_new (w := wO) rfl _ _ 22 rfl 5 Tryz.underlying22 infoB12 _ _ rfl (hO.alloc _) _ _ rfl hLt (by have := HLn.out; simp only [List.length_singleton]; omega) ?_))
       intro v6 w6 hO6 _
       rw [HNx.out] at hO6
       clear hO hLt
       go_wp2
       go_roundw
       case rel => exact ⟨m + 1, by have := HI8.out; omega, by have := HI8.out; rw [show 8 * (m + 1) = i8 + 8 by omega]; go_num, hO6⟩
       case measure =>
        simp [intOf]
        omega
      ·obtain ⟨j, rfl⟩ : ∃ j, t = j + 1 := ⟨t - 1, by omega⟩
       have hj : j < 8 := by omega
       have hjI : (((j + 1 : Nat) : Int) - 1) = (j : Int) := by omega
       rw [hjI]
       have hd0 : decide ((0 : Int) ≤ (j : Int)) = true := decide_eq_true (by omega)
       obtain ⟨q, hq⟩ : ∃ q : Nat, q = i8 + j := ⟨_, rfl⟩
       have xq : IntKind.i64.wrap ((i8 : Int) + (j : Int)) = (q : Int) := by rw [IntWalk.i64_in _ (by omega)]; omega
       have hqL : q < LL := by omega
       have hqI : (q : Int) < (LL : Int) := by omega
       have cq := HC2.out q hqL
       have hNs : N < 4096 := by rw [HN.out]; exact bs_small _ (pkB_lt d F) _ _ (by omega)
       obtain ⟨t2, y, hy, y1, y2⟩ := twice_facts N (pkB d F q) hNs (pkB_lt d F q)
       have HNn : Hid (y = bs (pkB d F) (i8 + j) (8 - j)) := by
        show _ = _
        rw [show 8 - j = (8 - (j + 1)) + 1 by omega, bs_succ, hy, hq, HN.out]
        rfl
       generalize pkB d F q = p at cq y2
       clear hy hq hjI h0 ht
       go_wp2
       go_round
       case rel => exact ⟨j, y, by omega, by go_num, rfl, HNn⟩
       case measure => simp [intOf] <;> omega
    ·have hdm : decide ((i8 : Int) < (LL : Int)) = false := decide_eq_false (by omega)
     have hmI : (LL : Int) ≤ (i8 : Int) := by omega
     have hme : m = 32 * d := by have := HLL.out; omega
     rw [hme] at hO
     have hOf := hO.from hb2
     clear hme hO hm hi8
     go_wp2
     go_ret
     exact ⟨_, rfl, hOf⟩
end Go.Proofs.YtmhbjaampobcbaaGreatDoor
