/- What functions of the program, or of the reference, answer: contracts; several texts in one. -/
import Derived.Test.YtdlmmcilembjgaaDoorBase
import Derived.Test.YtdlmmcilembjgaaDoorChecked
import Derived.OwnWalk
import Derived.Deep.QuietTactic
import Derived.BigQuiet
import Derived.WalkSpells
import Derived.RegionTactic
import Derived.BigRegion
import Derived.Test.YtdlmmcilembjgaaDoorGa
import Derived.Test.YtdlmmcilembjgaaDoorGb

namespace Go.Proofs.YtdlmmcilembjgaaDoor
open Go.ChangeShapes Go.WideShapes Go.ChangeAt Go.RowKit
set_option linter.unusedSimpArgs false
set_option linter.unusedVariables false

theorem infoI8 : (Tryd.prog.info? 3).map (fun i => (i.zero, i.size, i.bytes)) = some (some (.int .i64 0), 1, 8) := by kernel_rfl
theorem lit1I8 {k : IntKind} {w : World} {e : TypeId} (x : Int) : RdI k (w.alloc (.cells #[.int k x] e)) (.slice (some ⟨w.heap.size, 0, none⟩) 1 1) [x] :=
 (NewI.lit (k := k) (e := e) (w := w) [x] rfl rfl rfl (by simp [maxLen])).rd
theorem digit_facts (t : Nat) (h : t ≤ 2199023255552) : ∃ q d : Nat, q = t / 256 ∧ d = t % 256 ∧ ((t : Nat) : Int).tmod 256 = (d : Int) ∧ ((t : Nat) : Int).tdiv 256 = (q : Int) ∧ IntKind.i64.wrap (d : Int) = (d : Int) ∧ IntKind.i64.wrap (q : Int) = (q : Int) ∧ q ≤ 8589934592 ∧ IntKind.i64.wrap (t : Int) = (t : Int) := by
 refine ⟨t / 256, t % 256, rfl, rfl, ?_, ?_, ?_, ?_, by omega, ?_⟩
 ·rw [Int.tmod_eq_emod_of_nonneg (by omega)]; omega
 ·rw [Int.tdiv_eq_ediv_of_nonneg (by omega)]; omega
 ·exact IntWalk.i64_in _ (by omega)
 ·exact IntWalk.i64_in _ (by omega)
 ·exact IntWalk.i64_in _ (by omega)
theorem dgN_len8 (x i : Nat) : (nI (dgN x i)).length = i := by rw [nI_length, dgN_length]
theorem carry_next (s y c i q d : Nat) (hc : c = s / 256 ^ i) (hq : q = (c + y) / 256) (hd : d = (c + y) % 256) : q = (s + 256 ^ i * y) / 256 ^ (i + 1) ∧ nI (dgN (s + 256 ^ i * y) (i + 1)) = nI (dgN s i) ++ [(d : Int)] := by
 obtain ⟨h1, h2, h3⟩ := carry_step s y c i hc
 refine ⟨by rw [h1, hq], ?_⟩
 rw [← dgN_next, h2, h3, ← hd, ← nI_append]
 rfl

structure Ms8 where
  f : Nat → Nat → Int → Int → Nat
  eq : ∀ l n i c, f l n i c = (l - i.toNat) * 2199023255553 + (n - i.toNat) * 8589934593 + c.toNat
theorem ms8_is : ∃ _ : Ms8, True := ⟨⟨_, fun _ _ _ _ => rfl⟩, trivial⟩
theorem ms8_in (S8 : Ms8) {l n i c q : Nat} (h : i < l) (hq : q ≤ 8589934592) : S8.f l n ((i : Int) + 1) (q : Int) < S8.f l n (i : Int) (c : Int) := by
 rw [S8.eq, S8.eq]
 have e9 : ((i : Int) + 1).toNat = i + 1 := by omega
 simp only [e9, Int.toNat_natCast]
 omega
theorem ms8_out (S8 : Ms8) {l n i c q : Nat} (h : ¬ i < l) (hq : q ≤ 8589934592) (hqc : q = c / 256) (hc : 0 < c ∨ i < n) : S8.f l n ((i : Int) + 1) (q : Int) < S8.f l n (i : Int) (c : Int) := by
 rw [S8.eq, S8.eq]
 have e9 : ((i : Int) + 1).toNat = i + 1 := by omega
 simp only [e9, Int.toNat_natCast]
 omega

set_option maxRecDepth 100000 in
set_option maxHeartbeats 2000000 in
theorem carry8_any (v : Value) (a : List Nat) (n : Nat) (M : Int) (hM : M = (n : Int)) (hn : n ≤ 100) (hB : ∀ x ∈ a, x ≤ 1099511627776) (hl : a.length ≤ 1000000000000) (w : World) (hr : RdI .i64 w v (nI a)) :
  Calls Tryd.prog 66 #[v, .int .i64 M] w fun e w' => ∃ r L, e = .returned r ∧ a.length ≤ L ∧ n ≤ L ∧ dv a < 256 ^ L ∧ (∀ m, a.length ≤ m → n ≤ m → dv a < 256 ^ m → L ≤ m) ∧ NewI .i64 3 w r (nI (dgN (dv a) L)) w' := by
 obtain ⟨S8, -⟩ := ms8_is
 subst hM
 have HX : Hid (dv a < 256 ^ (a.length + 6)) := by
  have h1 := dv_le _ a hB
  have h2 : 0 < 256 ^ a.length := Nat.pow_pos (by decide)
  show _ < _
  rw [Nat.pow_add]
  generalize 256 ^ a.length = q at h1 h2 ⊢
  omega
 have HB : Hid (∀ x ∈ a, x ≤ 1099511627776) := hB
 have HR : Hid (RdI .i64 w v (nI a)) := hr
 obtain ⟨av, cap, rfl, h2, h3, h4, -⟩ := id hr
 rw [nI_length] at h2 HR ⊢
 unfold maxLen at h3
 clear hB hr h4
 go_enter Tryd.func66, Tryd.ntmps66
 go_wp2
 go_loopw [5, 6, 7] (fun o cv iv wr => ∃ i c : Nat, iv = .int .i64 (i : Int) ∧ cv = .int .i64 (c : Int) ∧ c ≤ 8589934592 ∧ i ≤ 1000000000200 ∧ Hid (c = dv (a.take i) / 256 ^ i) ∧ Hid (i ≤ a.length ∨ i ≤ n ∨ 256 ^ (i - 1) ≤ dv a) ∧ NewI .i64 3 w o (nI (dgN (dv (a.take i)) i)) wr) (fun _ cv iv _ => S8.f a.length n (intOf iv) (intOf cv))
 case atStart => exact ⟨0, 0, rfl, rfl, by omega, by omega, by simp [Hid, dv], by simp [Hid], NewI.start w⟩
 case round =>
  obtain ⟨i, c, rfl, rfl, hc, hi, HC, HI, hN⟩ := hrel
  by_cases hlt : i < a.length
  ·have hd : decide ((i : Int) < (a.length : Int)) = true := decide_eq_true (by omega)
   have hiI : (i : Int) < a.length := by omega
   obtain ⟨b, off, cp, ev, -, hcell, -⟩ := (HR.out.kept hN.2).cellAt (i := i) (by rw [nI_length]; exact hlt)
   simp only [Value.slice.injEq] at ev
   obtain ⟨rfl, -, rfl⟩ := ev
   rw [nI_get] at hcell
   have hy := getD_le HB.out i
   have HT : Hid _ := dv_take_succ a i hlt
   generalize a.getD i 0 = y at hcell hy HT
   obtain ⟨t, ht⟩ : ∃ t : Nat, t = c + y := ⟨_, rfl⟩
   obtain ⟨q, d, hq, hdd, e1, e2, e3, e4, hqb, e5⟩ := digit_facts t (by omega)
   have e0 : IntKind.i64.wrap ((c : Int) + (y : Int)) = (t : Int) := by rw [show (c : Int) + (y : Int) = (t : Int) by omega]; exact e5
   have HS : Hid (q = dv (a.take (i + 1)) / 256 ^ (i + 1) ∧ nI (dgN (dv (a.take (i + 1))) (i + 1)) = nI (dgN (dv (a.take i)) i) ++ [(d : Int)]) := by
    rw [HT.out]
    exact carry_next _ _ _ _ _ _ HC.out (by rw [hq, ht]) (by rw [hdd, ht])
   have HL : Hid _ := dgN_len8 (dv (a.take i)) i
   have hL : RdI .i64 (wr.alloc (.cells #[.int .i64 (d : Int)] 3)) (.slice (some ⟨wr.heap.size, 0, none⟩) 1 1) [(d : Int)] := lit1I8 _
   clear hq hdd ht HC HT
   go_wp2_with (at_builtin; go_must (refine wpList_append_newI (k := .i64) (w := w) rfl _ _ 88 rfl 3 Tryd.underlying88 8 infoI8 _ _ rfl (hN.alloc _) _ _ rfl hL (by rw [HL.out]; simp; omega) (by rw [HL.out]; simp; omega) ?_))
   intro v' w3 hN3 _
   rw [← HS.out.2] at hN3
   clear hN hL
   go_wp2
   go_roundw
   case rel => exact ⟨i + 1, q, by go_num, rfl, hqb, by omega, HS.out.1, .inl (by omega), hN3⟩
   case measure => exact ms8_in S8 hlt hqb
  ·have hti : a.take i = a := List.take_of_length_le (by omega)
   rw [hti] at HC hN
   have hd : decide ((i : Int) < (a.length : Int)) = false := decide_eq_false (by omega)
   have hiI : (a.length : Int) ≤ i := by omega
   by_cases hcont : 0 < c ∨ i < n
   ·have hi2 : i ≤ 1000000000100 := by
     rcases hcont with h | h
     ·have hle : 256 ^ i ≤ dv a := by
       have := HC.out
       rcases Nat.lt_or_ge (dv a) (256 ^ i) with h' | h'
       ·rw [Nat.div_eq_of_lt h'] at this; omega
       ·exact h'
      have hi6 := pow256_lt hle HX.out
      omega
     ·omega
    have HLE : Hid (i + 1 ≤ a.length ∨ i + 1 ≤ n ∨ 256 ^ (i + 1 - 1) ≤ dv a) := by
     rcases hcont with h | h
     ·refine .inr (.inr ?_)
      have := HC.out
      rcases Nat.lt_or_ge (dv a) (256 ^ i) with h' | h'
      ·rw [Nat.div_eq_of_lt h'] at this; omega
      ·exact h'
     ·exact .inr (.inl (by omega))
    obtain ⟨q, dd, hq, hdd, e1, e2, e3, e4, hqb, e5⟩ := digit_facts c (by omega)
    have hmeas : Hid _ := ms8_out S8 (l := a.length) hlt hqb hq hcont
    have HS : Hid (q = dv a / 256 ^ (i + 1) ∧ nI (dgN (dv a) (i + 1)) = nI (dgN (dv a) i) ++ [(dd : Int)]) := by
     have h := carry_next (dv a) 0 c i q dd HC.out (by rw [Nat.add_zero]; exact hq) (by rw [Nat.add_zero]; exact hdd)
     rw [Nat.mul_zero, Nat.add_zero] at h
     exact h
    have HL : Hid _ := dgN_len8 (dv a) i
    have HTI : Hid (a.take (i + 1) = a) := by show _ = _; exact List.take_of_length_le (by omega)
    by_cases hc0 : 0 < c
    ·have hL : RdI .i64 (wr.alloc (.cells #[.int .i64 (dd : Int)] 3)) (.slice (some ⟨wr.heap.size, 0, none⟩) 1 1) [(dd : Int)] := lit1I8 _
     have hd2 : decide ((0 : Int) < (c : Int)) = true := decide_eq_true (by omega)
     have hcI : (0 : Int) < c := by omega
     clear hq hdd HC hcont hc0
     go_wp2_with (at_builtin; go_must (refine wpList_append_newI (k := .i64) (w := w) rfl _ _ 88 rfl 3 Tryd.underlying88 8 infoI8 _ _ rfl (hN.alloc _) _ _ rfl hL (by rw [HL.out]; simp; omega) (by rw [HL.out]; simp; omega) ?_))
     intro v' w3 hN3 _
     rw [← HS.out.2] at hN3
     clear hN hL
     go_wp2
     go_roundw
     case rel => exact ⟨i + 1, q, by go_num, rfl, hqb, by omega, by rw [HTI.out]; exact HS.out.1, HLE, by rw [HTI.out]; exact hN3⟩
     case measure => exact hmeas.out
    ·have h00 : c = 0 := by omega
     subst h00
     have hq0 : q = 0 := by omega
     have hd0 : dd = 0 := by omega
     subst hq0
     subst hd0
     have hL : RdI .i64 (wr.alloc (.cells #[.int .i64 0] 3)) (.slice (some ⟨wr.heap.size, 0, none⟩) 1 1) [0] := lit1I8 _
     have hin : i < n := by omega
     have hd3 : decide ((i : Int) < (n : Int)) = true := decide_eq_true (by omega)
     have hinI : (i : Int) < (n : Int) := by omega
     have hS2 : Hid (nI (dgN (dv a) (i + 1)) = nI (dgN (dv a) i) ++ [(0 : Int)]) := HS.out.2
     clear hq hdd HC hcont hc0 e1 e2 e3 e4 e5
     go_wp2_with (at_builtin; go_must (refine wpList_append_newI (k := .i64) (w := w) rfl _ _ 88 rfl 3 Tryd.underlying88 8 infoI8 _ _ rfl (hN.alloc _) _ _ rfl hL (by rw [HL.out]; simp; omega) (by rw [HL.out]; simp; omega) ?_))
     intro v' w3 hN3 _
     rw [← hS2.out] at hN3
     clear hN hL
     go_wp2
     go_roundw
     case rel => exact ⟨i + 1, 0, by go_num, rfl, by omega, by omega, by rw [HTI.out]; exact HS.out.1, HLE, by rw [HTI.out]; exact hN3⟩
     case measure => exact hmeas.out
   ·have hc0 : c = 0 := by omega
    subst hc0
    have hin : ¬ i < n := fun h => hcont (.inr h)
    have hd2 : decide ((i : Int) < (n : Int)) = false := decide_eq_false (by omega)
    have hinI : (n : Int) ≤ (i : Int) := by omega
    have HE : Hid (a.length ≤ i ∧ n ≤ i ∧ dv a < 256 ^ i ∧ ∀ m, a.length ≤ m → n ≤ m → dv a < 256 ^ m → i ≤ m) := by
     refine ⟨by omega, by omega, ?_, fun m h1 h2 h3 => ?_⟩
     ·rcases Nat.lt_or_ge (dv a) (256 ^ i) with h | h
      ·exact h
      ·have := Nat.div_pos h (Nat.pow_pos (by decide))
       have h2 := HC.out
       omega
     ·rcases HI.out with h | h | h
      ·omega
      ·omega
      ·have := pow256_lt h h3
       omega
    clear HC HI hcont
    go_wp2
    go_ret
    exact ⟨_, i, rfl, HE.out.1, HE.out.2.1, HE.out.2.2.1, HE.out.2.2.2, hN⟩
theorem infoU88 : (Tryd.prog.info? 5).map (fun i => (i.zero, i.size, i.bytes)) = some (some (.int .u8 0), 1, 1) := by kernel_rfl
theorem New.store8 {e : TypeId} {w wr : World} {v : Value} {l : List UInt8} (h : New e w v l wr) {j : Nat} (hj : j < l.length) :
  ∃ g cap, v = .slice (some ⟨g, 0, none⟩) l.length cap ∧ l.length ≤ cap ∧ wr.cell? ⟨g, j, none⟩ = some (.int .u8 ((l.getD j 0).toNat : Int)) ∧ wr.frozen? ⟨g, j, none⟩ = false ∧
   ∀ u : UInt8, New e w v (l.set j u) (wr.setCell ⟨g, j, none⟩ (.int .u8 ((u.toNat : Nat) : Int))) := by
 obtain ⟨a, c, rfl, hc, -, -, -⟩ := id h.rd
 obtain ⟨g, rfl, hge, -, hcell, hfree, hset⟩ := own_at rfl h.1 hj
 exact ⟨g, c, rfl, hc, hcell, hfree, fun u => ⟨hset u _ rfl, h.2.setCell hge _⟩⟩
def cl1 (k : List UInt8) : Nat → List UInt8
 | 0 => k.take 16
 | j + 1 => (cl1 k j).set (4 * j + 3) (UInt8.ofNat (((cl1 k j).getD (4 * j + 3) 0).toNat % 16))
def cl2 (k : List UInt8) : Nat → List UInt8
 | 0 => cl1 k 4
 | j + 1 => (cl2 k j).set (4 * j + 4) (UInt8.ofNat (((cl2 k j).getD (4 * j + 4) 0).toNat / 4 * 4))
theorem cl1_length (k : List UInt8) (h : k.length = 32) : ∀ j, (cl1 k j).length = 16
 | 0 => by simp [cl1, h]
 | j + 1 => by simp [cl1, cl1_length k h j]
theorem cl2_length (k : List UInt8) (h : k.length = 32) : ∀ j, (cl2 k j).length = 16
 | 0 => cl1_length k h 4
 | j + 1 => by simp [cl2, cl2_length k h j]
theorem sixteen {l : List UInt8} (h : l.length = 16) : ∃ a b c d e f g i j k m n o p q r, l = [a, b, c, d, e, f, g, i, j, k, m, n, o, p, q, r] := by
 match l, h with
 | [a, b, c, d, e, f, g, i, j, k, m, n, o, p, q, r], _ => exact ⟨a, b, c, d, e, f, g, i, j, k, m, n, o, p, q, r, rfl⟩
theorem clP_take (k : List UInt8) : clP (k.take 16) = clP k := by
 unfold clP
 refine List.map_congr_left fun i hi => ?_
 have h : (k.take 16).getD i 0 = k.getD i 0 := by
  have := List.mem_range.1 hi
  simp [List.getElem?_take, this]
 simp only [h]
theorem cl2_done (k : List UInt8) (h : k.length = 32) : cl2 k 3 = clP k := by
 rw [← clP_take]
 obtain ⟨a, b, c, d, e, f, g, i, j, m, n, o, p, q, r, s, e0⟩ := sixteen (l := k.take 16) (by simp [h])
 unfold cl2 cl2 cl2 cl2 cl1 cl1 cl1 cl1 cl1
 rw [e0]
 rfl
theorem low4 (u : UInt8) : ∃ q : Nat, q = u.toNat % 16 ∧ ((u.toNat : Nat) : Int).tmod 16 = (q : Int) ∧ IntKind.u8.wrap (q : Int) = (q : Int) ∧ (((UInt8.ofNat q).toNat : Nat) : Int) = (q : Int) := by
 have := u.toNat_lt
 refine ⟨_, rfl, ?_, ?_, ?_⟩
 ·rw [Int.tmod_eq_emod_of_nonneg (by omega)]; omega
 ·rw [IntKind.wrap_u8]; omega
 ·rw [UInt8.toNat_ofNat']; omega
theorem off2 (u : UInt8) : ∃ q p : Nat, p = u.toNat / 4 * 4 ∧ ((u.toNat : Nat) : Int).tdiv 4 = (q : Int) ∧ IntKind.u8.wrap (q : Int) = (q : Int) ∧ IntKind.u8.wrap ((q : Int) * 4) = (p : Int) ∧ (((UInt8.ofNat p).toNat : Nat) : Int) = (p : Int) := by
 have := u.toNat_lt
 refine ⟨u.toNat / 4, _, rfl, ?_, ?_, ?_, ?_⟩
 ·rw [Int.tdiv_eq_ediv_of_nonneg (by omega)]; omega
 ·rw [IntKind.wrap_u8]; omega
 ·rw [IntKind.wrap_u8]; omega
 ·rw [UInt8.toNat_ofNat']; omega

set_option maxRecDepth 100000 in
set_option maxHeartbeats 1000000 in
theorem clamp8_any (vk : Value) (k : List UInt8) (hk : k.length = 32) (w : World) (hr : Rd w vk k) :
  Calls Tryd.prog 65 #[vk] w fun e w' => ∃ r, e = .returned r ∧ New 5 w r (clP k) w' := by
 obtain ⟨ak, ck, rfl, hck, hmk, -, -⟩ := id hr
 unfold maxLen at hmk
 have HK : Hid (k.length = 32) := hk
 have hr2 := Rd.take hr (n := 16) (by rw [hk]; decide)
 have HL : Hid (([] : List UInt8).length + (k.take 16).length ≤ 140737488355328) := by show _ ≤ _; simp [hk]
 rw [hk] at hck ⊢
 have hN0 : New 5 w (.slice none 0 0) [] w := New.start w
 clear hk hr
 go_enter Tryd.func65, Tryd.ntmps65
 go_wp2_with (at_builtin; go_must (refine wpList_append_new (w := w) rfl _ _ 22 rfl 5 Tryd.underlying22 infoU88 _ _ rfl hN0 _ _ rfl hr2 HL.out ?_))
 intro v1 w1 hN1 _
 have hN1' : New 5 w v1 (cl1 k 0) w1 := hN1
 clear hN1 hN0 hr2
 obtain ⟨g, c, rfl, hc, -, -, -⟩ := hN1'.store8 (j := 0) (by rw [cl1_length k HK.out]; decide)
 rw [cl1_length k HK.out] at hc hN1' ⊢
 go_wp2
 go_loopw [4] (fun iv wr => ∃ j : Nat, iv = .int .i64 ((4 * j + 3 : Nat) : Int) ∧ j ≤ 4 ∧ New 5 w (.slice (some ⟨g, 0, none⟩) 16 c) (cl1 k j) wr) (fun iv _ => 20 - (intOf iv).toNat)
 case atStart => exact ⟨0, rfl, by omega, hN1'⟩
 case round =>
  obtain ⟨j, rfl, hj, hN⟩ := hrel
  clear hN1'
  by_cases hlt : j < 4
  ·obtain ⟨i, hi⟩ : ∃ i : Nat, i = 4 * j + 3 := ⟨_, rfl⟩
   obtain ⟨g', c', ev, -, hcell, hfree, hset⟩ := hN.store8 (j := i) (by rw [cl1_length k HK.out]; omega)
   simp only [Value.slice.injEq, Option.some.injEq, Addr.mk.injEq, and_true, true_and] at ev
   obtain ⟨rfl, -, rfl⟩ := ev
   obtain ⟨q, hq, e1, e2, e3⟩ := low4 ((cl1 k j).getD i 0)
   have HS := hset (UInt8.ofNat q)
   rw [e3] at HS
   have HN : Hid (New 5 w (.slice (some ⟨g, 0, none⟩) 16 c) (cl1 k (j + 1)) (wr.setCell ⟨g, i, none⟩ (.int .u8 (q : Int)))) := by
    have : cl1 k (j + 1) = (cl1 k j).set i (UInt8.ofNat q) := by rw [hq, hi]; rfl
    rw [this]
    exact HS
   rw [← hi]
   have hd : decide ((i : Int) < 16) = true := decide_eq_true (by omega)
   have hiI : (i : Int) < 16 := by omega
   have HI : Hid (i = 4 * j + 3) := hi
   generalize ((cl1 k j).getD i 0).toNat = t at hcell e1
   clear hset HS hq hN e3 hi
   go_wp2
   go_roundw
   case rel => exact ⟨j + 1, by rw [HI.out]; go_num, by omega, HN.out⟩
   case measure => have := HI.out; simp [intOf]; omega
  ·have hj4 : j = 4 := by omega
   subst hj4
   have hN2 : New 5 w (.slice (some ⟨g, 0, none⟩) 16 c) (cl2 k 0) wr := hN
   clear hN
   go_wp2
   go_loopw [5] (fun iv wr => ∃ j : Nat, iv = .int .i64 ((4 * j + 4 : Nat) : Int) ∧ j ≤ 3 ∧ New 5 w (.slice (some ⟨g, 0, none⟩) 16 c) (cl2 k j) wr) (fun iv _ => 20 - (intOf iv).toNat)
   case atStart => exact ⟨0, rfl, by omega, hN2⟩
   case round =>
    obtain ⟨j, rfl, hj, hN⟩ := hrel
    rename World => WC
    clear hN2
    by_cases hlt : j < 3
    ·obtain ⟨i, hi⟩ : ∃ i : Nat, i = 4 * j + 4 := ⟨_, rfl⟩
     obtain ⟨g', c', ev, -, hcell, hfree, hset⟩ := hN.store8 (j := i) (by rw [cl2_length k HK.out]; omega)
     simp only [Value.slice.injEq, Option.some.injEq, Addr.mk.injEq, and_true, true_and] at ev
     obtain ⟨rfl, -, rfl⟩ := ev
     obtain ⟨p, q, hq, e1, e2, e4, e3⟩ := off2 ((cl2 k j).getD i 0)
     have HS := hset (UInt8.ofNat q)
     rw [e3] at HS
     have HN : Hid (New 5 w (.slice (some ⟨g, 0, none⟩) 16 c) (cl2 k (j + 1)) (WC.setCell ⟨g, i, none⟩ (.int .u8 (q : Int)))) := by
      have : cl2 k (j + 1) = (cl2 k j).set i (UInt8.ofNat q) := by rw [hq, hi]; rfl
      rw [this]
      exact HS
     rw [← hi]
     have hd : decide ((i : Int) < 16) = true := decide_eq_true (by omega)
     have hiI : (i : Int) < 16 := by omega
     have HI : Hid (i = 4 * j + 4) := hi
     generalize ((cl2 k j).getD i 0).toNat = t at hcell e1
     clear hset HS hq hN e3 hi
     go_wp2
     go_roundw
     case rel => exact ⟨j + 1, by rw [HI.out]; go_num, by omega, HN.out⟩
     case measure => have := HI.out; simp [intOf]; omega
    ·have hj3 : j = 3 := by omega
     subst hj3
     rw [cl2_done k HK.out] at hN
     go_wp2
     go_ret
     exact ⟨_, rfl, hN⟩
def vAt8 (w : World) (v : Value) : Nat :=
 match v with
 | .slice (some ad) n _ => dv ((List.range n).map fun i => match w.cell? ⟨ad.block, ad.off + i, none⟩ with
  | some (.int _ x) => x.toNat
  | _ => 0)
 | _ => 0
theorem vAt8_eq {w : World} {v : Value} {l : List Nat} (h : RdI .i64 w v (nI l)) : vAt8 w v = dv l := by
 obtain ⟨a, cap, rfl, h2, h3, h4, h5⟩ := h
 rw [nI_length] at h2 h5 ⊢
 rcases h5 with h5 | ⟨b, off, rfl, hc⟩
 ·have hl : l = [] := by cases l with | nil => rfl | cons x l => simp [nI] at h5
  subst hl
  cases a <;> rfl
 ·have e : ((List.range l.length).map fun i => match w.cell? ⟨b, off + i, none⟩ with
   | some (.int _ x) => x.toNat
   | _ => 0) = l := by
   refine List.ext_getElem (by simp) fun i h1 h2 => ?_
   simp only [List.getElem_map, List.getElem_range]
   rw [hc i h2, nI_get]
   simp [h2]
  show dv ((List.range l.length).map fun i => match w.cell? ⟨b, off + i, none⟩ with
   | some (.int _ x) => x.toNat
   | _ => 0) = dv l
  rw [e]
theorem NewI.from8 {k : IntKind} {e : TypeId} {w wr w2 : World} {v : Value} {l : List Int} (h : NewI k e wr v l w2) (hb : Below w.heap.size w wr) : NewI k e w v l w2 := ⟨own_mono h.1 hb.size, hb.trans (h.2.mono hb.size)⟩

set_option maxRecDepth 100000 in
set_option maxHeartbeats 4000000 in
theorem mod8_any (v : Value) (a : List Nat) (hB : ∀ x ∈ a, x ≤ 1099511627776) (hl : a.length ≤ 999999999000) (w : World) (hr : RdI .i64 w v (nI a)) :
  Calls Tryd.prog 67 #[v] w fun e w' => ∃ r L, e = .returned r ∧ 18 ≤ L ∧ L ≤ a.length + 18 ∧ NewI .i64 3 w r (nI (dgN (dv a % p8) L)) w' := by
 obtain ⟨ti, hti, hz0, hz1, hz2⟩ := info_parts infoI8
 have hx : dv a < 256 ^ (a.length + 18) := by
  have h1 := dv_le _ a hB
  have h2 : 0 < 256 ^ a.length := Nat.pow_pos (by decide)
  rw [Nat.pow_add]
  generalize 256 ^ a.length = q at h1 h2 ⊢
  omega
 obtain ⟨B, hBe⟩ : ∃ B, B = a.length + 18 := ⟨_, rfl⟩
 rw [← hBe] at hx ⊢
 have HX : Hid (dv a < 256 ^ B) := hx
 have hBb : B ≤ 999999999018 := by omega
 clear hx
 go_enter Tryd.func67, Tryd.ntmps67
 go_wp2_with fail
 refine (carry8_any _ a 18 18 rfl (by omega) hB (by omega) _ hr).mono ?_
 rintro e w1 ⟨v1, L1, rfl, hL1, h181, hx1, hmin, hN1⟩
 have hL1b := hmin B (by omega) (by omega) HX.out
 have HX1 : Hid (dv a < 256 ^ L1) := hx1
 clear hmin hx1 hL1 hB hl hr HX hBe
 go_wp2
 go_loopw [0] (fun v wr => ∃ x L : Nat, 18 ≤ L ∧ L ≤ B ∧ Hid (x < 256 ^ L) ∧ Hid (x % p8 = dv a % p8) ∧ NewI .i64 3 w v (nI (dgN x L)) wr) (fun v wr => vAt8 wr v)
 case atStart => exact ⟨dv a, L1, h181, hL1b, HX1, rfl, hN1⟩
 case round =>
  obtain ⟨x, L, h18, hL, Hx, Hm, hN⟩ := hrel
  rename World => WA
  clear hN1 HX1 hL1b h181
  have HLM : Hid ((nI (dgN x L)).length = L) := by show _ = _; rw [nI_length, dgN_length]
  obtain ⟨gb, gc, rfl, hgb, hglt, hcm, hcx, hcells, -, -⟩ := hN.all (by rw [← List.length_pos_iff, HLM.out]; omega)
  have HV : Hid (vAt8 WA (.slice (some ⟨gb, 0, none⟩) (nI (dgN x L)).length gc) = x) := by show _ = _; rw [vAt8_eq hN.rd, dv_dgN, Nat.mod_eq_of_lt Hx.out]
  have HC : Hid (∀ i, i < L → WA.cell? ⟨gb, i, none⟩ = some (.int .i64 ((dg x i : Nat) : Int))) := fun i hi => by rw [hcells i (by rw [HLM.out]; exact hi), nI_get, dgN_get _ _ _ hi]
  rw [HLM.out] at hN hcm HV ⊢
  unfold maxLen at hcx
  have HN0 : Hid _ := hN
  have HB2 : Hid _ := hN.2
  have hc16 := HC.out 16 (by omega)
  have hL17 : 17 < L := by omega
  have hL17I : (17 : Int) < (L : Int) := by omega
  have hL16I : (16 : Int) < (L : Int) := by omega
  have hL0I : (0 : Int) < (L : Int) := by omega
  have H0 : Hid (Value.bool (decide ((3 : Int) < ((dg x 16 : Nat) : Int))) = .bool (decide (t8 ≤ x % 256 ^ 17))) := by
   show _ = _
   refine congrArg Value.bool (decide_eq_decide.2 ?_)
   rw [← high8_start]
   omega
  clear hcells hN
  go_wp2
  go_loop [3, 4] (fun h iv => ∃ i : Nat, iv = .int .i64 (i : Int) ∧ 17 ≤ i ∧ i ≤ L ∧ h = .bool (decide (t8 ≤ x % 256 ^ i))) (fun _ iv => L - (intOf iv).toNat)
  case atStart => exact ⟨17, rfl, by omega, by omega, H0.out⟩
  case round =>
   obtain ⟨i, rfl, hi17, hiL, rfl⟩ := hrel
   by_cases hilt : i < L
   ·have hdi : decide ((i : Int) < (L : Int)) = true := decide_eq_true (by omega)
    have hiI : (i : Int) < L := by omega
    have hci := HC.out i hilt
    have HS : Hid _ := high8_step x i hi17
    clear H0 hc16
    by_cases hh : t8 ≤ x % 256 ^ i
    ·rw [decide_eq_true hh]
     have HE : Hid (decide (t8 ≤ x % 256 ^ (i + 1)) = true) := decide_eq_true (HS.out.2 (.inl hh))
     clear hh HS
     generalize dg x i = q at hci
     go_wp2
     go_round
     case rel => exact ⟨i + 1, by go_num, by omega, by omega, by rw [HE.out]⟩
     case measure => simp [intOf]; omega
    ·rw [decide_eq_false hh]
     by_cases hq : 0 < dg x i
     ·have HE : Hid (decide (t8 ≤ x % 256 ^ (i + 1)) = true) := decide_eq_true (HS.out.2 (.inr hq))
      have hdq : decide ((0 : Int) < ((dg x i : Nat) : Int)) = true := decide_eq_true (by omega)
      have hqI : (0 : Int) < ((dg x i : Nat) : Int) := by omega
      clear hh HS
      generalize dg x i = q at hci hq hdq hqI
      go_wp2
      go_round
      case rel => exact ⟨i + 1, by go_num, by omega, by omega, by rw [HE.out]⟩
      case measure => simp [intOf]; omega
     ·have HE : Hid (decide (t8 ≤ x % 256 ^ (i + 1)) = false) := decide_eq_false fun h => (HS.out.1 h).elim hh hq
      have hq0 : dg x i = 0 := by omega
      rw [hq0] at hci
      clear hh HS hq hq0
      go_wp2
      go_round
      case rel => exact ⟨i + 1, by go_num, by omega, by omega, by rw [HE.out]⟩
      case measure => simp [intOf]; omega
   ·have hie : i = L := by omega
    have hdi : decide ((i : Int) < (L : Int)) = false := decide_eq_false (by omega)
    have hiI : (L : Int) ≤ i := by omega
    have e1 : decide (t8 ≤ x % 256 ^ i) = decide (t8 ≤ x) := by
     rw [hie, Nat.mod_eq_of_lt Hx.out]
    rw [e1]
    clear e1 hie H0
    by_cases hsm : x < t8
    ·have hno : ¬ t8 ≤ x := by omega
     rw [decide_eq_false hno]
     have HSM : Hid _ := hsm
     clear hno hsm
     have hc0 := HC.out 0 (by omega)
     by_cases h3 : dg x 16 = 3
     ·rw [h3] at hc16
      by_cases h251 : 251 ≤ dg x 0
      ·have hd0 : decide ((251 : Int) ≤ ((dg x 0 : Nat) : Int)) = true := decide_eq_true (by omega)
       have hd0I : (251 : Int) ≤ ((dg x 0 : Nat) : Int) := by omega
       have H3 : Hid _ := h3
       have H251 : Hid _ := h251
       obtain ⟨q0, hq0⟩ : ∃ q0, Hid (q0 = dg x 0) := ⟨_, rfl⟩
       rw [← hq0.out] at hc0 hd0 hd0I
       clear h3 h251
       go_wp2
       go_loop [9, 10] (fun al iv => ∃ (i : Nat) (b : Bool), iv = .int .i64 (i : Int) ∧ 1 ≤ i ∧ i ≤ 16 ∧ al = .bool b ∧ Hid (b = true ↔ ∀ j, j < i → 1 ≤ j → dg x j = 255)) (fun _ iv => 16 - (intOf iv).toNat)
       case atStart => exact ⟨1, true, rfl, by omega, by omega, rfl, ⟨fun _ j h1 h2 => by omega, fun _ => rfl⟩⟩
       case round =>
        obtain ⟨j, b, rfl, hj1, hj16, rfl, HB⟩ := hrel
        clear hdi hiI
        by_cases hl : j < 16
        ·have hdi : decide ((j : Int) < 16) = true := decide_eq_true (by omega)
         have hiI : (j : Int) < 16 := by omega
         have hiL2 : (j : Int) < (L : Int) := by omega
         have hcj := HC.out j (by omega)
         cases b with
         | false =>
          have HE : Hid (false = true ↔ ∀ i, i < j + 1 → 1 ≤ i → dg x i = 255) := ⟨fun h => (by simp at h), fun h => HB.out.2 fun i h1 h2 => h i (by omega) h2⟩
          clear HB hcj
          go_wp2
          go_round
          case rel => exact ⟨j + 1, false, by go_num, by omega, by omega, rfl, HE⟩
          case measure => simp [intOf]; omega
         | true =>
          by_cases hq : dg x j = 255
          ·rw [hq] at hcj
           have HE : Hid (true = true ↔ ∀ i, i < j + 1 → 1 ≤ i → dg x i = 255) := ⟨fun _ i h1 h2 => by
            by_cases h : i = j
            ·rw [h]; exact hq
            ·exact HB.out.1 rfl i (by omega) h2, fun _ => rfl⟩
           clear HB hq
           go_wp2
           go_round
           case rel => exact ⟨j + 1, true, by go_num, by omega, by omega, rfl, HE⟩
           case measure => simp [intOf]; omega
          ·have HE : Hid (false = true ↔ ∀ i, i < j + 1 → 1 ≤ i → dg x i = 255) := ⟨fun h => (by simp at h), fun h => absurd (h j (by omega) hj1) hq⟩
           have hne : (((dg x j : Nat) : Int) == 255) = false := by simp; omega
           have hne2 : ¬ ((dg x j : Nat) : Int) = 255 := by omega
           generalize dg x j = q at hcj hne hne2
           clear HB hq
           go_wp2
           go_round
           case rel => exact ⟨j + 1, false, by go_num, by omega, by omega, rfl, HE⟩
           case measure => simp [intOf]; omega
        ·have hj : j = 16 := by omega
         subst hj
         cases b with
         | false =>
          have HP : Hid (x < p8) := by
           show _ < _
           refine Nat.lt_of_not_le fun hp => ?_
           have h : ∀ j, j < 16 → 1 ≤ j → dg x j = 255 := fun j h1 h2 => by
            refine Decidable.byContradiction fun h3 => ?_
            have := tail8_c x j HSM.out h2 h1 h3
            omega
           have := HB.out.2 h
           simp at this
          have HF : Hid (x = dv a % p8) := by show _ = _; rw [← Hm.out, Nat.mod_eq_of_lt HP.out]
          go_wp2
          go_ret
          exact ⟨_, rfl, L, h18, hL, by rw [← HF.out]; exact HN0.out⟩
         | true =>
          have HP : Hid (p8 ≤ x) := tail8_d x HSM.out H3.out H251.out (HB.out.1 rfl)
          obtain ⟨hs1, hs2⟩ := last8 x HP.out HSM.out
          obtain ⟨d, hdd⟩ : ∃ d : Nat, d = x % p8 := ⟨_, rfl⟩
          rw [← hdd] at hs1 hs2
          have HF : Hid (d = dv a % p8) := by show _ = _; rw [← Hm.out, hdd]
          have ed : IntKind.i64.wrap ((q0 : Int) - 251) = (d : Int) := by
           have := hq0.out
           rw [IntWalk.i64_in _ (by omega)]
           omega
          clear hs1 hdd
          go_wp2_with (at_make; go_must (refine wpList_make_full _ rfl _ _ 88 rfl _ 3 ti _ 1 Tryd.underlying88 hti hz0 hz1 _ _ _ _ 18 rfl rfl rfl rfl (by rw [hz2]; omega) (by unfold maxLen; omega) (Nat.le_refl _) ?_))
          intro w6 hown hgr
          have hN6 := NewI.made hown hgr
          obtain ⟨g6, c6, ev, -, -, h60, h61, h62⟩ := hN6.at (j := 0) (by simp)
          simp only [Value.slice.injEq, Option.some.injEq, Addr.mk.injEq, and_true, true_and] at ev
          obtain ⟨rfl, -, rfl⟩ := ev
          have h63 := h62 (d : Int)
          have hc06 : w6.cell? ⟨gb, 0, none⟩ = some (.int .i64 (q0 : Int)) := by
           rw [hN6.2.cell (p := ⟨gb, 0, none⟩) hglt]
           exact hc0
          have e9 : (List.replicate 18 (0 : Int)).set 0 (d : Int) = nI (dgN d 18) := by
           rw [← small8 d hs2, ← nI_set, nI_zeros]
          rw [e9] at h63
          have HR6 : Hid _ := h63.from8 HB2.out
          clear hown hgr hN6 h62 h63 e9 hc0 hc16
          go_wp2
          go_ret
          exact ⟨_, 18, rfl, by omega, by omega, by rw [← HF.out]; exact HR6.out⟩
      ·have HP : Hid (x < p8) := tail8_b x HSM.out (by omega)
       have HF : Hid (x = dv a % p8) := by show _ = _; rw [← Hm.out, Nat.mod_eq_of_lt HP.out]
       have hd0 : decide ((251 : Int) ≤ ((dg x 0 : Nat) : Int)) = false := decide_eq_false (by omega)
       have hd0I : ((dg x 0 : Nat) : Int) < 251 := by omega
       generalize dg x 0 = q0 at hc0 hd0 hd0I
       clear h3 h251
       go_wp2
       go_ret
       exact ⟨_, rfl, L, h18, hL, by rw [← HF.out]; exact HN0.out⟩
     ·have HP : Hid (x < p8) := tail8_a x HSM.out h3
      have HF : Hid (x = dv a % p8) := by show _ = _; rw [← Hm.out, Nat.mod_eq_of_lt HP.out]
      have hne : (((dg x 16 : Nat) : Int) == 3) = false := by simp; omega
      have hne2 : ¬ ((dg x 16 : Nat) : Int) = 3 := by omega
      generalize dg x 16 = q at hc16 hne hne2
      clear h3
      go_wp2
      go_ret
      exact ⟨_, rfl, L, h18, hL, by rw [← HF.out]; exact HN0.out⟩
    ·have HGE : Hid (t8 ≤ x) := show _ ≤ _ by omega
     rw [decide_eq_true HGE.out]
     clear hsm
     go_wp2_with (at_make; go_must (refine wpList_make_full _ rfl _ _ 88 rfl _ 3 ti _ 1 Tryd.underlying88 hti hz0 hz1 _ _ _ _ 17 rfl rfl rfl rfl (by rw [hz2]; omega) (by unfold maxLen; omega) (Nat.le_refl _) ?_))
     intro w3 hown hgr
     have hN3 := NewI.made hown hgr
     clear hown hgr
     go_wp2
     go_loopw [6] (fun iv wx => ∃ i : Nat, i ≤ 17 ∧ iv = .int .i64 (i : Int) ∧ NewI .i64 3 WA (.slice (some ⟨WA.heap.size, 0, none⟩) 17 17) (nI (dgN x i ++ List.replicate (17 - i) 0)) wx) (fun iv _ => 17 - (intOf iv).toNat)
     case atStart => exact ⟨0, by omega, rfl, by simpa [dgN, nI] using hN3⟩
     case round =>
      obtain ⟨i, hi, rfl, hNC⟩ := hrel
      rename World => WC
      clear hN3 hdi hiI
      by_cases hl : i < 17
      ·have hdi : decide ((i : Int) < 17) = true := decide_eq_true (by omega)
       have hiI : (i : Int) < 17 := by omega
       have hiM2 : (i : Int) < L := by omega
       have hci : WC.cell? ⟨gb, i, none⟩ = some (.int .i64 ((dg x i : Nat) : Int)) := by
        rw [hNC.2.cell (p := ⟨gb, i, none⟩) hglt]
        exact HC.out i (by omega)
       obtain ⟨g, c, ev, -, -, k1, k2, k3⟩ := hNC.at (j := i) (by rw [nI_length, lay8_length _ _ _ (by omega)]; omega)
       simp only [Value.slice.injEq, Option.some.injEq, Addr.mk.injEq, and_true, true_and] at ev
       obtain ⟨rfl, -, rfl⟩ := ev
       have k4 := k3 ((dg x i : Nat) : Int)
       rw [nI_set, lay8_next x 17 i (by omega)] at k4
       generalize (nI (dgN x i ++ List.replicate (17 - i) 0)).getD i 0 = z at k1
       have HK4 : Hid _ := k4
       clear hc16
       generalize dg x i = q at hci HK4
       clear hNC k3 k4
       go_wp2
       go_roundw
       case rel => exact ⟨i + 1, by omega, by go_num, HK4.out⟩
       case measure => simp [intOf]; omega
      ·have hie : i = 17 := by omega
       subst hie
       have hc16C : WC.cell? ⟨gb, 16, none⟩ = some (.int .i64 ((dg x 16 : Nat) : Int)) := by
        rw [hNC.2.cell (p := ⟨gb, 16, none⟩) hglt]
        exact hc16
       obtain ⟨g, c, ev, -, -, k1, k2, k3⟩ := hNC.at (j := 16) (by rw [nI_length, lay8_length _ _ _ (by omega)]; omega)
       simp only [Value.slice.injEq, Option.some.injEq, Addr.mk.injEq, and_true, true_and] at ev
       obtain ⟨rfl, -, rfl⟩ := ev
       have k4 := k3 ((dg x 16 % 4 : Nat) : Int)
       rw [nI_set] at k4
       have HF0 : Hid (Fd8 x 0 ((dgN x 17 ++ List.replicate (17 - 17) 0).set 16 (dg x 16 % 4))) := by
        have := Fd8.start x
        rw [Nat.sub_self, List.replicate_zero, List.append_nil]
        exact this
       have HO0 : Hid (((dgN x 17 ++ List.replicate (17 - 17) 0).set 16 (dg x 16 % 4)).length ≤ L) := by show _ ≤ _; rw [List.length_set, lay8_length _ _ _ (by omega)]; omega
       generalize (dgN x 17 ++ List.replicate (17 - 17) 0).set 16 (dg x 16 % 4) = o at k4 HF0 HO0
       have em : ((dg x 16 : Nat) : Int).tmod 4 = ((dg x 16 % 4 : Nat) : Int) := by rw [Int.tmod_eq_emod_of_nonneg (by omega)]; omega
       have hq4 : dg x 16 % 4 < 4 := Nat.mod_lt _ (by decide)
       have HK4 : Hid _ := k4
       generalize (nI (dgN x 17 ++ List.replicate (17 - 17) 0)).getD 16 0 = z at k1
       generalize dg x 16 % 4 = q at em HK4 hq4
       clear hc16
       generalize dg x 16 = q0 at hc16C em
       clear hNC k3 k4 hl
       go_wp2
       go_loopw [5, 7] (fun ov iv wx => ∃ (m : Nat) (o : List Nat), iv = .int .i64 ((m + 16 : Nat) : Int) ∧ m + 16 ≤ L ∧ Hid (o.length ≤ L) ∧ Hid (Fd8 x m o) ∧ NewI .i64 3 WA ov (nI o) wx) (fun _ iv _ => L - (intOf iv).toNat)
       case atStart => exact ⟨0, o, rfl, by omega, HO0, HF0, HK4.out⟩
       case round =>
        obtain ⟨m, o1, rfl, hm, HO1, HF1, hN1⟩ := hrel
        rename World => WD
        clear HK4 HF0 HO0 k1 k2 hc16C em
        obtain ⟨i, hi⟩ : ∃ i : Nat, i = m + 16 := ⟨_, rfl⟩
        rw [← hi]
        have HI : Hid (i = m + 16) := hi
        by_cases hl : i < L
        ·clear hi
         have hdi : decide ((i : Int) < (L : Int)) = true := decide_eq_true (by omega)
         have hiI : (i : Int) < L := by omega
         go_wp2
         go_loopw [5] (fun ov wx => ∃ o : List Nat, Hid (o.length ≤ L) ∧ Hid (Fd8 x m o) ∧ NewI .i64 3 WA ov (nI o) wx) (fun v _ => i - sLen v)
         case atStart => exact ⟨o1, HO1, HF1, hN1⟩
         case round =>
          obtain ⟨o2, HO2, HF2, hN2⟩ := hrel
          rename World => WE
          clear hN1 HF1 HO1
          have hlen2 := HO2.out
          have hlen3 := HF2.out.len
          obtain ⟨g2, c2, rfl, hg2, -, hc2a, hc2b, hcells2, hfree2, hset2⟩ := hN2.all (by rw [← List.length_pos_iff, nI_length]; omega)
          unfold maxLen at hc2b
          rw [nI_length] at hN2 hc2a hset2 ⊢
          by_cases hsh : o2.length < i
          ·have hd2 : decide ((o2.length : Int) < (i : Int)) = true := decide_eq_true (by omega)
           have hsI : (o2.length : Int) < (i : Int) := by omega
           have hL1 : RdI .i64 (WE.alloc (.cells #[.int .i64 0] 3)) (.slice (some ⟨WE.heap.size, 0, none⟩) 1 1) [0] := lit1I8 _
           have hsb : o2.length + 1 ≤ 999999999018 := by omega
           clear hset2 hcells2 hfree2
           go_wp2_with (at_builtin; go_must (refine wpList_append_newI (k := .i64) (w := WA) rfl _ _ 88 rfl 3 Tryd.underlying88 8 infoI8 _ _ rfl (hN2.alloc _) _ _ rfl hL1 (by rw [nI_length]; simp; omega) (by rw [nI_length]; simp; omega) ?_))
           intro v' w5 hN5 _
           have e5 : nI o2 ++ [0] = nI (o2 ++ [0]) := by
            rw [← nI_append]
            rfl
           rw [e5] at hN5
           obtain ⟨a5, c5, rfl, -, -, -, -⟩ := id hN5.rd
           have HL5 : Hid ((nI (o2 ++ [0])).length = o2.length + 1) := by show _ = _; rw [nI_length]; simp
           rw [HL5.out] at hN5 ⊢
           clear e5 hL1 hN2
           go_wp2
           go_roundw
           case rel => exact ⟨_, _, _, _, _, _, _, _, ⟨o2 ++ [0], (show _ ≤ _ by simp; omega), HF2.out.app, hN5⟩, rfl⟩
           case measure => simp [sLen]; omega
          ·have hd2 : decide ((o2.length : Int) < (i : Int)) = false := decide_eq_false (by omega)
           have hsI : (i : Int) ≤ (o2.length : Int) := by omega
           have hi := HI.out
           have hmo : m < o2.length := by omega
           have hmI : (m : Int) < (o2.length : Int) := by omega
           have w16 : IntKind.i64.wrap ((i : Int) - 16) = (m : Int) := by rw [IntWalk.i64_in _ (by omega)]; omega
           have w17 : IntKind.i64.wrap ((i : Int) + 1) = (i : Int) + 1 := IntWalk.i64_in _ (by omega)
           have hc1 : WE.cell? ⟨gb, i, none⟩ = some (.int .i64 ((dg x i : Nat) : Int)) := by
            rw [hN2.2.cell (p := ⟨gb, i, none⟩) hglt]
            exact HC.out i hl
           have k1 := hcells2 m (by rw [nI_length]; exact hmo)
           rw [nI_get] at k1
           have k2 := hfree2 m
           have hzb := HF2.out.rest m (Nat.le_refl _)
           obtain ⟨n, hn⟩ : ∃ n : Nat, n = dg (x / t8) m := ⟨_, rfl⟩
           have hn2 := hn.trans (high8' x m)
           rw [← hi, show m + 17 = i + 1 by omega] at hn2
           have hnb : n < 256 := by rw [hn]; exact dg_lt _ _
           have k4 := hset2 m ((o2.getD m 0 + 5 * n : Nat) : Int)
           rw [nI_set] at k4
           have HFN : Hid _ := HF2.out.put hmo hn
           have HON : Hid ((o2.set m (o2.getD m 0 + 5 * n)).length ≤ L) := by show _ ≤ _; rw [List.length_set]; exact hlen2
           generalize o2.set m (o2.getD m 0 + 5 * n) = o3 at k4 HFN HON
           have HK4 : Hid _ := k4
           generalize o2.getD m 0 = z at k1 hzb HK4
           have ew : IntKind.i64.wrap ((z : Int) + 5 * (n : Int)) = ((z + 5 * n : Nat) : Int) := by rw [IntWalk.i64_in _ (by omega)]; omega
           have e5 : IntKind.i64.wrap (5 * (n : Int)) = 5 * (n : Int) := IntWalk.i64_in _ (by omega)
           have hq1 := dg_lt x i
           have hq2 := dg_lt x (i + 1)
           obtain ⟨n1, hn1⟩ : ∃ n1 : Nat, n1 = dg x i / 4 := ⟨_, rfl⟩
           have et1 : ((dg x i : Nat) : Int).tdiv 4 = (n1 : Int) := by rw [Int.tdiv_eq_ediv_of_nonneg (by omega)]; omega
           have ewn1 : IntKind.i64.wrap (n1 : Int) = (n1 : Int) := IntWalk.i64_in _ (by omega)
           generalize hol : o2.length = ol at hsI hmo hmI hd2 hlen2 hlen3 hc2a k4 HK4 hsh ⊢
           by_cases hl2 : i + 1 < L
           ·have e32 : ((i : Int) + 1).toNat = i + 1 := by omega
            have hl32 : decide ((i : Int) + 1 < (L : Int)) = true := decide_eq_true (by omega)
            have hlJ : (i : Int) + 1 < (L : Int) := by omega
            have hc2 : WE.cell? ⟨gb, i + 1, none⟩ = some (.int .i64 ((dg x (i + 1) : Nat) : Int)) := by
             rw [hN2.2.cell (p := ⟨gb, i + 1, none⟩) hglt]
             exact HC.out (i + 1) hl2
            obtain ⟨n2, hn22⟩ : ∃ n2 : Nat, n2 = dg x (i + 1) % 4 := ⟨_, rfl⟩
            have et2 : ((dg x (i + 1) : Nat) : Int).tmod 4 = (n2 : Int) := by rw [Int.tmod_eq_emod_of_nonneg (by omega)]; omega
            have ewn2 : IntKind.i64.wrap (n2 : Int) = (n2 : Int) := IntWalk.i64_in _ (by omega)
            have ew2 : IntKind.i64.wrap ((n2 : Int) * 64) = (n2 : Int) * 64 := IntWalk.i64_in _ (by omega)
            have ew3 : IntKind.i64.wrap ((n1 : Int) + (n2 : Int) * 64) = (n : Int) := by rw [IntWalk.i64_in _ (by omega)]; omega
            generalize dg x i = q1 at hc1 et1
            generalize dg x (i + 1) = q2 at hc2 et2
            clear hN2 hcells2 hfree2 hset2 k4 hn hn2 hn1 hn22 hq1 hq2 hol hi
            go_wp2
            go_roundw
            case rel => exact ⟨m + 1, o3, by rw [HI.out]; go_num, by have := HI.out; omega, HON, HFN, HK4.out⟩
            case measure => have := HI.out; simp [intOf]; omega
           ·have hl32 : decide ((i : Int) + 1 < (L : Int)) = false := decide_eq_false (by omega)
            have hlJ : (L : Int) ≤ (i : Int) + 1 := by omega
            have hz2' : dg x (i + 1) = 0 := by
             unfold dg
             rw [Nat.div_eq_of_lt (Nat.lt_of_lt_of_le Hx.out (Nat.pow_le_pow_right (by decide) (by omega)))]
            have hnn : n1 = n := by rw [hn2, hz2', hn1]; simp
            subst hnn
            generalize dg x i = q1 at hc1 et1
            clear hN2 hcells2 hfree2 hset2 k4 hn hn2 hn1 hq1 hq2 hol hi hz2'
            go_wp2
            go_roundw
            case rel => exact ⟨m + 1, o3, by rw [HI.out]; go_num, by have := HI.out; omega, HON, HFN, HK4.out⟩
            case measure => have := HI.out; simp [intOf]; omega
        ·have hdi : decide ((i : Int) < (L : Int)) = false := decide_eq_false (by omega)
         have hiI : (L : Int) ≤ (i : Int) := by omega
         have hmL : m + 16 = L := by omega
         have HF : Hid (dv o1 = fold8 x) := HF1.out.done (by rw [hmL]; exact Hx.out)
         have HOB : Hid (∀ y ∈ o1, y ≤ 1099511627776) := fun y hy => by
          have := HF1.out.all y hy
          omega
         have hRD := hN1.rd
         have HBD : Hid _ := stepB HB2.out hN1.2
         clear hN1 hmL hi
         go_wp2_with fail
         refine (carry8_any _ o1 18 18 rfl (by omega) HOB.out (by have := HO1.out; omega) _ hRD).mono ?_
         rintro e w9 ⟨v9, L9, rfl, hL9, h189, hx9, hmin, hN9⟩
         rw [HF.out] at hx9 hmin hN9
         have hfl := fold8_lt' x HGE.out
         have hL9b := hmin L HO1.out (by omega) (Nat.lt_trans hfl Hx.out)
         have HX9 : Hid (fold8 x < 256 ^ L9) := hx9
         have HN9 : Hid _ := hN9.from8 HBD.out
         have HFL : Hid (fold8 x < x) := hfl
         have hL9c : L9 ≤ B := by omega
         have HVE : Hid (vAt8 w9 v9 = fold8 x) := by show _ = _; rw [vAt8_eq hN9.rd, dv_dgN, Nat.mod_eq_of_lt hx9]
         clear hmin hx9 hN9 hfl hL9 hL9b hRD
         go_wp2
         go_roundw
         case rel => exact ⟨fold8 x, L9, h189, hL9c, HX9, (fold8_mod x).trans Hm.out, HN9.out⟩
         case measure =>
          have h1 := HV.out
          have h2 := HVE.out
          have h3 := HFL.out
          simp
          omega
theorem stream_facts (i c : Nat) (hi : i < 1000000000) (hc : c < 4294967296) : ∃ q r d : Nat, q = i / 64 ∧ r = i % 64 ∧ d = c + q ∧ ((i : Nat) : Int).tdiv 64 = (q : Int) ∧ IntKind.i64.wrap (q : Int) = (q : Int) ∧ IntKind.u64.wrap (q : Int) = (q : Int) ∧ IntKind.u64.wrap ((c : Int) + (q : Int)) = (d : Int) ∧
  ((i : Nat) : Int).tmod 64 = (r : Int) ∧ IntKind.i64.wrap (r : Int) = (r : Int) ∧ r < 64 ∧ (r : Int) < 64 ∧ d < 18446744073709551616 := by
 refine ⟨i / 64, i % 64, c + i / 64, rfl, rfl, rfl, ?_, ?_, ?_, ?_, ?_, ?_, by omega, by omega, by omega⟩
 ·rw [Int.tdiv_eq_ediv_of_nonneg (by omega)]; omega
 ·exact IntWalk.i64_in _ (by omega)
 ·rw [IntKind.wrap_u64]; omega
 ·rw [IntKind.wrap_u64]; omega
 ·rw [Int.tmod_eq_emod_of_nonneg (by omega)]; omega
 ·exact IntWalk.i64_in _ (by omega)
theorem Rd.cell0 {w : World} {b off n cap : Nat} {l : List UInt8} (h : Rd w (.slice (some ⟨b, off, none⟩) n cap) l) {i : Nat} (hi : i < l.length) : w.cell? ⟨b, off + i, none⟩ = some (.int .u8 ((l.getD i 0).toNat : Int)) := by
 obtain ⟨b', o', c', ev, -, hc, -⟩ := h.cellAt hi
 simp only [Value.slice.injEq, Option.some.injEq, Addr.mk.injEq, and_true] at ev
 obtain ⟨⟨rfl, rfl⟩, -, -⟩ := ev
 exact hc
def smP (key : List UInt8) (c : Nat) (nonce b : List UInt8) (i : Nat) : List UInt8 := (List.range i).map fun j => b.getD j 0 ^^^ ksB key c nonce j
theorem smP_next (key : List UInt8) (c : Nat) (nonce b : List UInt8) (i : Nat) : smP key c nonce b i ++ [b.getD i 0 ^^^ ksB key c nonce i] = smP key c nonce b (i + 1) := by
 unfold smP
 rw [List.range_succ, List.map_append]
 rfl
theorem smP_length (key : List UInt8) (c : Nat) (nonce b : List UInt8) (i : Nat) : (smP key c nonce b i).length = i := by simp [smP]
theorem smP_all (key : List UInt8) (c : Nat) (nonce b : List UInt8) : smP key c nonce b b.length = smL key c nonce b := rfl

set_option maxRecDepth 100000 in
set_option maxHeartbeats 4000000 in
theorem streamR_any (vk vn vb : Value) (k n b : List UInt8) (c : Nat) (C : Int) (hC : C = (c : Int)) (hc32 : c < 4294967296) (w : World) (hk : Rd w vk k) (hn : Rd w vn n) (hb : Rd w vb b) (hk32 : k.length = 32) (hn12 : n.length = 12) (hbl : b.length ≤ 100000000) :
  Calls Tryd.prog 34 #[vk, .int .u64 C, vn, vb] w fun e w' => ∃ r, e = .returned r ∧ New 5 w r (smL k c n b) w' := by
 subst hC
 obtain ⟨ak, ck, rfl, -, hmk, -, -⟩ := id hk
 obtain ⟨an, cn, rfl, -, hmn, -, -⟩ := id hn
 obtain ⟨ab, cb, rfl, -, hmb, -, -⟩ := id hb
 unfold maxLen at hmk hmn hmb
 have d1 : (((k.length : Nat) : Int) != 32) = false := by rw [hk32]; rfl
 have d2 : (((n.length : Nat) : Int) != 12) = false := by rw [hn12]; rfl
 have HKR : Hid (Rd w (.slice ak k.length ck) k) := hk
 have HNR : Hid (Rd w (.slice an n.length cn) n) := hn
 have HBR : Hid (Rd w (.slice ab b.length cb) b) := hb
 have HK : Hid (k.length = 32) := hk32
 have HN : Hid (n.length = 12) := hn12
 have hN0 : New 5 w (.slice none 0 0) (smP k c n b 0) w := New.start w
 clear hk hn hb hk32 hn12
 go_enter Tryd.func34, Tryd.ntmps34
 have hO0 : Own 5 w [(.slice none 0 0, smP k c n b 0), (.slice none 0 0, [])] w := (Own.start 5 w).nil.nil
 clear hN0
 go_wp2
 go_loopw [9, 10, 11] (fun ov lv iv wx => ∃ (i : Nat) (L : List UInt8), i ≤ b.length ∧ iv = .int .i64 (i : Int) ∧ Own 5 w [(ov, smP k c n b i), (lv, L)] wx ∧ Hid (i % 64 ≠ 0 → L = bkL k (c + i / 64) n)) (fun _ _ iv _ => b.length - (intOf iv).toNat)
 case atStart => exact ⟨0, [], by omega, rfl, hO0, fun h => absurd rfl h⟩
 case round =>
  obtain ⟨i, L, hi, rfl, hO, HLk⟩ := hrel
  clear hO0
  by_cases hlt : i < b.length
  ·have hd : decide ((i : Int) < (b.length : Int)) = true := decide_eq_true (by omega)
   have hiI : (i : Int) < (b.length : Int) := by omega
   obtain ⟨q, r, d, hq, hr, hdq, f1, f2, f3, f4, f5, f6, hr64, hrI, hd64⟩ := stream_facts i c (by omega) hc32
   by_cases h0 : r = 0
   case' pos =>
    have hr0 : ((r : Int) == 0) = true := by rw [h0]; rfl
    have HDQ : Hid (bkL k d n = bkL k (c + i / 64) n) := by show _ = _; rw [hdq, hq]
    have HRQ : Hid (r = i % 64) := hr
    clear hq hr hdq h0
    go_wp2_with fail
    refine (blockR_any _ _ k n d _ rfl hd64 _ (HKR.out.kept hO.below) (HNR.out.kept hO.below) HK.out HN.out).mono ?_
    rintro e w5 ⟨v5, rfl, hN5⟩
    rw [HDQ.out] at hN5
    have hO5 := ((hO.new hN5).perm (List.reverse_perm _)).tail
    have hOr : Own 5 w [(u9, smP k c n b i), (v5, bkL k (c + i / 64) n)] w5 := hO5
    have hR5 := hOr.rd (v := v5) (l := bkL k (c + i / 64) n) (by simp)
    clear hN5 hO hO5 HLk hr0 HDQ
   case' neg =>
    have hr0 : ((r : Int) == 0) = false := by simp; omega
    have HDQ : Hid (L = bkL k (c + i / 64) n) := HLk.out (by rw [← hr]; exact h0)
    have HRQ : Hid (r = i % 64) := hr
    rw [HDQ.out] at hO
    have hOr : Own 5 w [(u9, smP k c n b i), (u10, bkL k (c + i / 64) n)] wr := hO
    have hR5 := hOr.rd (v := u10) (l := bkL k (c + i / 64) n) (by simp)
    clear hq hr hdq h0 hO HLk HDQ
   all_goals
    obtain ⟨gb, ob, cB, rfl, hcB, hcr, -⟩ := hR5.cellAt (i := r) (by rw [bkL_length]; exact hr64)
    obtain ⟨bb, bo, cbb, ev, -, hcb, -⟩ := HBR.out.cellAt (i := i) hlt
    simp only [Value.slice.injEq] at ev
    obtain ⟨rfl, -, rfl⟩ := ev
    rw [bkL_length] at hcB hR5 hOr ⊢
    have HNx : Hid _ := smP_next k c n b i
    have HKS : Hid (ksB k c n i = (bkL k (c + i / 64) n).getD r 0) := by show _ = _; unfold ksB; rw [HRQ.out]
    have HSL : Hid ((smP k c n b i).length ≤ 100000000) := by show _ ≤ _; rw [smP_length]; omega
    rw [HKS.out] at HNx
    have xx := byte_xor (b.getD i 0) ((bkL k (c + i / 64) n).getD r 0)
    have hbelow := hOr.below
    obtain ⟨BK, hBK⟩ : ∃ B : List UInt8, B = bkL k (c + i / 64) n := ⟨_, rfl⟩
    rw [← hBK] at hcr hOr hR5 HNx HKS xx
    obtain ⟨p, hp⟩ : ∃ p : UInt8, p = b.getD i 0 := ⟨_, rfl⟩
    rw [← hp] at hcb HNx xx
    obtain ⟨q2, hq2⟩ : ∃ p : UInt8, p = BK.getD r 0 := ⟨_, rfl⟩
    rw [← hq2] at hcr HNx xx
    obtain ⟨y, hy⟩ : ∃ y : UInt8, y = p ^^^ q2 := ⟨_, rfl⟩
    rw [← hy] at HNx xx
    have HBKL : Hid (BK.length = 64) := by show _ = _; rw [hBK]; exact bkL_length _ _ _
    have HQ2 : Hid _ := hq2
    have HBK : Hid _ := hBK
    clear hp hq2 hy hBK HKS
    rename World => wX
    have hS : Below w.heap.size w wX.drew ∧ wX.drew.cell? ⟨gb, ob + r, none⟩ = some (.int .u8 ((q2.toNat : Nat) : Int)) := ⟨hbelow.drew, hcr⟩
    have hb1 := growB (w := wX.drew) (.cells #[.int .u8 ((y.toNat : Nat) : Int)] 5)
    have hO6 := hOr.drew.kept hb1
    have r8 : Rd (wX.drew.alloc (.cells #[.int .u8 ((y.toNat : Nat) : Int)] 5)) (.slice (some ⟨wX.heap.size, 0, none⟩) 1 1) [y] := Rd.lit1 y rfl
    go_wp2_with fail
    refine wpS_begin (fun W => Below w.heap.size w W ∧ W.cell? ⟨gb, ob + r, none⟩ = some (.int .u8 ((q2.toNat : Nat) : Int))) (by kernel_rfl) ?_
    refine wpS_take (hS := hS) (i := 0) (oi := ⟨some 37, .move (.tmp 9), 22, "ref.go:75", #[], none⟩) (v := ?_) rfl (by kernel_rfl) (by kernel_rfl) (by kernel_rfl) (by rfl) ?_ ?_
    rotate_left
    ·intro W hW; go_simp <;> with_reducible rfl
    try simp only [Act.put, putA, putB, putC]
    refine wpS_take (hS := hS) (i := 1) (oi := ⟨some 38, .move (.tmp 3), 22, "ref.go:75", #[], none⟩) (v := ?_) rfl (by kernel_rfl) (by kernel_rfl) (by kernel_rfl) (by rfl) ?_ ?_
    rotate_left
    ·intro W hW; go_simp <;> with_reducible rfl
    try simp only [Act.put, putA, putB, putC]
    refine wpS_take (hS := hS) (i := 2) (oi := ⟨some 39, .move (.tmp 11), 3, "ref.go:75", #[], none⟩) (v := ?_) rfl (by kernel_rfl) (by kernel_rfl) (by kernel_rfl) (by rfl) ?_ ?_
    rotate_left
    ·intro W hW; go_simp <;> with_reducible rfl
    try simp only [Act.put, putA, putB, putC]
    refine wpS_take (hS := hS) (i := 3) (oi := ⟨some 40, .indexAddr 22 (.tmp 38) (.tmp 39), 0, "ref.go:75", #[⟨1, .data⟩, ⟨2, .data⟩], none⟩) (v := ?_) rfl (by kernel_rfl) (by kernel_rfl) (by kernel_rfl) (by rfl) ?_ ?_
    rotate_left
    ·intro W hW; go_simp <;> with_reducible rfl
    try simp only [Act.put, putA, putB, putC]
    refine wpS_take (hS := hS) (i := 4) (oi := ⟨some 41, .load 5 (.tmp 40), 5, "ref.go:75", #[⟨3, .data⟩], none⟩) (v := ?_) rfl (by kernel_rfl) (by kernel_rfl) (by kernel_rfl) (by rfl) ?_ ?_
    rotate_left
    ·intro W hW; have hcW := cellK0 hcb hW.1; go_simp <;> with_reducible rfl
    try simp only [Act.put, putA, putB, putC]
    refine wpS_take (hS := hS) (i := 5) (oi := ⟨some 42, .move (.tmp 10), 22, "ref.go:75", #[], none⟩) (v := ?_) rfl (by kernel_rfl) (by kernel_rfl) (by kernel_rfl) (by rfl) ?_ ?_
    rotate_left
    ·intro W hW; go_simp <;> with_reducible rfl
    try simp only [Act.put, putA, putB, putC]
    refine wpS_take (hS := hS) (i := 6) (oi := ⟨some 43, .move (.tmp 11), 3, "ref.go:75", #[], none⟩) (v := ?_) rfl (by kernel_rfl) (by kernel_rfl) (by kernel_rfl) (by rfl) ?_ ?_
    rotate_left
    ·intro W hW; go_simp <;> with_reducible rfl
    try simp only [Act.put, putA, putB, putC]
    refine wpS_take (hS := hS) (i := 7) (oi := ⟨some 44, .binOp .rem 3 (.tmp 43) (.const (.int .i64 64)) 3, 3, "ref.go:75", #[⟨6, .data⟩], none⟩) (v := ?_) rfl (by kernel_rfl) (by kernel_rfl) (by kernel_rfl) (by rfl) ?_ ?_
    rotate_left
    ·intro W hW; go_simp <;> with_reducible rfl
    try simp only [Act.put, putA, putB, putC]
    refine wpS_take (hS := hS) (i := 8) (oi := ⟨some 45, .indexAddr 22 (.tmp 42) (.tmp 44), 0, "ref.go:75", #[⟨5, .data⟩, ⟨7, .data⟩], none⟩) (v := ?_) rfl (by kernel_rfl) (by kernel_rfl) (by kernel_rfl) (by rfl) ?_ ?_
    rotate_left
    ·intro W hW; go_simp <;> with_reducible rfl
    try simp only [Act.put, putA, putB, putC]
    refine wpS_take (hS := hS) (i := 9) (oi := ⟨some 46, .load 5 (.tmp 45), 5, "ref.go:75", #[⟨8, .data⟩], none⟩) (v := ?_) rfl (by kernel_rfl) (by kernel_rfl) (by kernel_rfl) (by rfl) ?_ ?_
    rotate_left
    ·intro W hW; have hcW := hW.2; go_simp <;> with_reducible rfl
    try simp only [Act.put, putA, putB, putC]
    refine wpS_take (hS := hS) (i := 10) (oi := ⟨some 47, .binOp .xor 5 (.tmp 41) (.tmp 46) 5, 5, "ref.go:75", #[⟨4, .data⟩, ⟨9, .data⟩], none⟩) (v := ?_) rfl (by kernel_rfl) (by kernel_rfl) (by kernel_rfl) (by rfl) ?_ ?_
    rotate_left
    ·intro W hW; go_simp <;> with_reducible rfl
    try simp only [Act.put, putA, putB, putC]
    refine wpS_do (i := 11) (o := ⟨some 48, .buildSlice 22 1 #[(0, .tmp 47)], 22, "ref.go:75", #[⟨10, .data⟩], none⟩) (by kernel_rfl) rfl (by rfl) fun K hK => ?_
    replace hS := And.intro (stepB hS.1 hb1) (cellK0 hS.2 hb1)
    go_simp
    refine hK.out _ _ hS ?_
    clear hK K
    try simp only [Act.put, putA, putB, putC]
    refine wpS_do (i := 12) (o := ⟨some 49, .call { callee := .builtin Builtin.append, args := #[.tmp 37, .tmp 48], argTypes := #[22, 22] }, 22, "ref.go:75", #[⟨0, .data⟩, ⟨11, .data⟩], none⟩) (by kernel_rfl) rfl (by rfl) fun K hK => ?_
    refine wp_append_base (base := w.heap.size) _ _ 22 (by rfl) 5 Tryd.underlying22 infoU8 _ _ (by rfl) (hO6.rows _ (List.mem_cons_self ..)) hO6.below.size _ _ (by rfl) r8 (by have := HSL.out; simp only [List.length_singleton]; omega) ?_
    intro v7 w7 q1 q2' q3
    have hO7 := hO6.append q1 q2' q3
    rw [HNx.out] at hO7
    have hR7 := hO7.rd (v := .slice (some ⟨gb, ob, none⟩) 64 cB) (l := BK) (by simp)
    have hc7 := hR7.cell0 (i := r) (by rw [HBKL.out]; exact hr64)
    rw [← HQ2.out] at hc7
    replace hS := And.intro hO7.below hc7
    clear q1 q2' q3
    refine hK.out _ _ hS ?_
    clear hK K
    try simp only [Act.put, putA, putB, putC]
    refine wpS_take (hS := hS) (i := 13) (oi := ⟨some 9, .assign (.tmp 49), 22, "ref.go:75", #[⟨12, .data⟩, ⟨12, .chain⟩, ⟨0, .phase⟩, ⟨1, .phase⟩, ⟨2, .phase⟩, ⟨3, .phase⟩, ⟨4, .phase⟩, ⟨5, .phase⟩, ⟨6, .phase⟩, ⟨7, .phase⟩, ⟨8, .phase⟩, ⟨9, .phase⟩, ⟨10, .phase⟩, ⟨11, .phase⟩, ⟨12, .phase⟩], none⟩) (v := ?_) rfl (by kernel_rfl) (by kernel_rfl) (by kernel_rfl) (by rfl) ?_ ?_
    rotate_left
    ·intro W hW; go_simp <;> with_reducible rfl
    try simp only [Act.put, putA, putB, putC]
    refine wpS_done (by kernel_rfl) ?_
    have HLN : Hid ((i + 1) % 64 ≠ 0 → BK = bkL k (c + (i + 1) / 64) n) := fun h => by
     rw [HBK.out]
     congr 1
     omega
    clear hS hO6 r8 hb1 hOr hR5 hbelow hcr hcb hR7 hc7
    go_wp2
    go_roundw
    case rel => exact ⟨i + 1, BK, by omega, by go_num, hO7, HLN⟩
    case measure => simp [intOf] <;> omega
  ·have hie : i = b.length := by omega
   have hd : decide ((i : Int) < (b.length : Int)) = false := decide_eq_false (by omega)
   have hiI : (b.length : Int) ≤ (i : Int) := by omega
   have hNe : New 5 w u9 (smL k c n b) wr := by
    rw [← smP_all, ← hie]
    exact ⟨hO.rows _ (List.mem_cons_self ..), hO.below⟩
   clear hO hie
   go_wp2
   go_ret
   exact ⟨_, rfl, hNe⟩
theorem Rd.cells8 {w : World} {v : Value} {l : List UInt8} (h : Rd w v l) (hl : 0 < l.length) : ∃ b off cap, v = .slice (some ⟨b, off, none⟩) l.length cap ∧ l.length ≤ cap ∧ b < w.heap.size ∧ ∀ i, i < l.length → w.cell? ⟨b, off + i, none⟩ = some (.int .u8 ((l.getD i 0).toNat : Int)) := by
 obtain ⟨b, off, cap, ev, h1, -, h2⟩ := h.cellAt hl
 refine ⟨b, off, cap, ev, h1, h2, fun i hi => ?_⟩
 obtain ⟨b', off', cap', ev', -, h3, -⟩ := h.cellAt hi
 rw [ev] at ev'
 simp only [Value.slice.injEq, Option.some.injEq, Addr.mk.injEq, and_true, true_and] at ev'
 obtain ⟨⟨rfl, rfl⟩, -⟩ := ev'
 exact h3
theorem zero18 : List.replicate 18 (0 : Int) = nI (dgN 0 18) := by decide

set_option maxRecDepth 100000 in
set_option maxHeartbeats 8000000 in
theorem mac8_any (vk vb : Value) (k b : List UInt8) (hk : k.length = 32) (hb : b.length ≤ 7000000) (w : World) (hrk : Rd w vk k) (hrb : Rd w vb b) :
  Calls Tryd.prog 48 #[vk, vb] w fun e w' => ∃ r, e = .returned r ∧ New 5 w r (mcP k b) w' := by
 obtain ⟨ti, hti, hz0, hz1, hz2⟩ := info_parts infoI8
 obtain ⟨bk, ok, ck, rfl, hck, hlk, hcellk⟩ := hrk.cells8 (by rw [hk]; decide)
 have HKC : Hid _ := hcellk
 obtain ⟨ab, cb, rfl, hcb, hmb, -, -⟩ := id hrb
 unfold maxLen at hmb
 have HRB : Hid _ := hrb
 have HK : Hid (k.length = 32) := hk
 rw [hk] at hck hrk ⊢
 clear hcellk hrb hk
 go_enter Tryd.func48, Tryd.ntmps48
 go_wp2_with fail
 refine (clamp8_any _ k HK.out _ hrk).mono ?_
 rintro e w1 ⟨vr, rfl, hNr⟩
 obtain ⟨br, orr, cr, rfl, hcr, hlr, hcellr⟩ := hNr.rd.cells8 (by rw [clP_length]; decide)
 have HR : Hid (∀ i, i < 16 → w1.cell? ⟨br, orr + i, none⟩ = some (.int .u8 ((dg (leN (clP k)) i : Nat) : Int))) := fun i hi => (by rw [dg_leN8]; exact hcellr i (by rw [clP_length]; exact hi))
 rw [clP_length] at hcr ⊢
 have HB1 : Hid _ := hNr.2
 have hR16 := leN_lt (clP k)
 rw [clP_length] at hR16
 have HR16 : Hid (leN (clP k) < 256 ^ 16) := hR16
 obtain ⟨R, hRe⟩ : ∃ R, R = leN (clP k) := ⟨_, rfl⟩
 have HRE : Hid (R = leN (clP k)) := hRe
 rw [← hRe] at HR HR16
 clear hcellr hNr hR16 hRe
 go_wp2_with (at_make; go_must (refine wpList_make_full _ rfl _ _ 88 rfl _ 3 ti _ 1 Tryd.underlying88 hti hz0 hz1 _ _ _ _ 18 rfl rfl rfl rfl (by rw [hz2]; omega) (by unfold maxLen; omega) (Nat.le_refl _) ?_))
 intro w2 hown hgr
 have hN2 := NewI.made hown hgr
 rw [zero18] at hN2
 clear hown hgr
 go_wp2
 go_loopw [6, 7] (fun av iv wx => ∃ j L : Nat, iv = .int .i64 ((16 * j : Nat) : Int) ∧ j ≤ nblk b.length ∧ 18 ≤ L ∧ L ≤ 18 + 34 * j ∧ NewI .i64 3 w1 av (nI (dgN (accN R b j) L)) wx) (fun _ iv _ => b.length + 16 - (intOf iv).toNat)
 case atStart => exact ⟨0, 18, rfl, by omega, by omega, by omega, hN2⟩
 case round =>
  obtain ⟨j, L, rfl, hj, hL1, hL2, hN⟩ := hrel
  rename World => WA
  clear hN2
  have hjb : j ≤ 437501 := by unfold nblk at hj; omega
  obtain ⟨i, hi⟩ : ∃ i : Nat, i = 16 * j := ⟨_, rfl⟩
  rw [← hi]
  have HI : Hid (i = 16 * j) := hi
  have HLM : Hid ((nI (dgN (accN R b j) L)).length = L) := by show _ = _; rw [nI_length, dgN_length]
  obtain ⟨ga, ca, rfl, hga, hgalt, hca, hcx, -, -, -⟩ := hN.all (by rw [← List.length_pos_iff, HLM.out]; omega)
  unfold maxLen at hcx
  rw [HLM.out] at hN hca ⊢
  have HAL : Hid (accN R b j < 256 ^ L) := by
   have h1 := accN_lt R b j
   have h3 : 256 ^ 18 ≤ 256 ^ L := Nat.pow_le_pow_right (by decide) hL1
   show _ < _
   rw [p8_val] at h1
   omega
  have hL0I : (17 : Int) < (L : Int) := by omega
  by_cases hlt : i < b.length
  ·have hdi : decide ((i : Int) < (b.length : Int)) = true := decide_eq_true (by omega)
   have hiI : (i : Int) < (b.length : Int) := by omega
   obtain ⟨bs, hbs⟩ : ∃ bs, bs = (b.drop (16 * j)).take 16 := ⟨_, rfl⟩
   have hbl := blk_length b j
   rw [← hbs, ← hi] at hbl
   have HBG : Hid (∀ n, n < 16 → bs.getD n 0 = b.getD (i + n) 0) := fun n hn => by rw [hbs, hi]; exact blk_get b j n hn
   have HBN : Hid (blkN b j = leN bs + 256 ^ bs.length) := by show _ = _; rw [hbs]; rfl
   obtain ⟨bb, ob, cb2, ev, -, hlb, hcellb⟩ := Rd.cells8 (l := b) HRB.out (by omega)
   simp only [Value.slice.injEq] at ev
   obtain ⟨rfl, -, rfl⟩ := ev
   have HBC : Hid _ := hcellb
   have hS := Ad8.start (accN R b j) L bs HAL.out
   have HLE : Hid ((dgN (accN R b j) L).length = L) := dgN_length _ _
   have HS : Hid _ := hS
   have HBL : Hid (bs.length = min 16 (b.length - i)) := hbl
   clear hbs hcellb hi hS hbl
   go_wp2
   go_loopw [8] (fun nv wx => ∃ (n : Nat) (o : List Nat), nv = .int .i64 (n : Int) ∧ n ≤ bs.length ∧ Hid (o.length = L) ∧ Hid (Ad8 (accN R b j) bs n o) ∧ NewI .i64 3 w1 (.slice (some ⟨ga, 0, none⟩) L ca) (nI o) wx) (fun nv _ => 16 - (intOf nv).toNat)
   case atStart => exact ⟨0, _, rfl, by omega, HLE, HS, hN⟩
   case round =>
    obtain ⟨n, o, rfl, hn, HO, HA, hNn⟩ := hrel
    rename World => WB
    clear hN HS HLE
    have hbl := HBL.out
    have hn16 : n ≤ 16 := by omega
    obtain ⟨g, c, ev, -, -, k1, k2, k3⟩ := hNn.at (j := n) (by rw [nI_length, HO.out]; omega)
    simp only [Value.slice.injEq, Option.some.injEq, Addr.mk.injEq, and_true, true_and] at ev
    obtain ⟨rfl, -, rfl⟩ := ev
    rw [nI_get] at k1
    have hz := HA.out.rest n (Nat.le_refl _)
    have wi : IntKind.i64.wrap ((i : Int) + (n : Int)) = (i : Int) + (n : Int) := IntWalk.i64_in _ (by omega)
    have hnL : (n : Int) < (L : Int) := by omega
    by_cases hlt2 : n < bs.length
    ·have d16 : decide ((n : Int) < 16) = true := decide_eq_true (by omega)
     have d16I : (n : Int) < 16 := by omega
     have db : decide ((i : Int) + (n : Int) < (b.length : Int)) = true := decide_eq_true (by omega)
     have dbI : (i : Int) + (n : Int) < (b.length : Int) := by omega
     have ein : ((i : Int) + (n : Int)).toNat = i + n := by omega
     have ei0 : (0 : Int) ≤ (i : Int) + (n : Int) := by omega
     have c2 : WB.cell? ⟨bb, ob + (i + n), none⟩ = some (.int .u8 (((bs.getD n 0).toNat : Nat) : Int)) := by
      rw [hNn.2.cell (p := ⟨bb, ob + (i + n), none⟩) (Nat.lt_of_lt_of_le hlb HB1.out.size), HB1.out.cell (p := ⟨bb, ob + (i + n), none⟩) hlb, HBG.out n (by omega)]
      exact HBC.out (i + n) (by omega)
     have k4 := k3 ((o.getD n 0 + (bs.getD n 0).toNat : Nat) : Int)
     rw [nI_set] at k4
     have HA2 : Hid _ := HA.out.put hlt2 (by rw [HO.out]; omega)
     have HO2 : Hid ((o.set n (o.getD n 0 + (bs.getD n 0).toNat)).length = L) := by show _ = _; rw [List.length_set]; exact HO.out
     have hbt := (bs.getD n 0).toNat_lt
     generalize o.set n (o.getD n 0 + (bs.getD n 0).toNat) = o2 at k4 HA2 HO2
     have HK4 : Hid _ := k4
     generalize o.getD n 0 = z at k1 hz HK4
     generalize (bs.getD n 0).toNat = t at c2 hbt HK4
     have es : IntKind.i64.wrap ((z : Int) + (t : Int)) = ((z + t : Nat) : Int) := by rw [IntWalk.i64_in _ (by omega)]; omega
     have et : IntKind.i64.wrap (t : Int) = (t : Int) := IntWalk.i64_in _ (by omega)
     clear hNn k3 k4 hbl
     go_wp2_with fail
     refine wpE_begin 13 (by kernel_rfl) ?_
     refine wpE_t (i := 0) (oi := ⟨some 37, .move (.tmp 6), 88, "ref.go:86", #[], none⟩) (v := ?_) ?_ ?_
     rotate_left
     ·intro W hW; go_simp <;> with_reducible rfl
     try simp only [Act.put, putA, putB, putC]
     refine wpE_t (i := 1) (oi := ⟨some 38, .move (.tmp 8), 3, "ref.go:86", #[], none⟩) (v := ?_) ?_ ?_
     rotate_left
     ·intro W hW; go_simp <;> with_reducible rfl
     try simp only [Act.put, putA, putB, putC]
     refine wpE_t (i := 2) (oi := ⟨some 39, .indexAddr 88 (.tmp 37) (.tmp 38), 0, "ref.go:86", #[⟨0, .data⟩, ⟨1, .data⟩], none⟩) (v := ?_) ?_ ?_
     rotate_left
     ·intro W hW; go_simp <;> with_reducible rfl
     try simp only [Act.put, putA, putB, putC]
     refine wpE_t (i := 3) (oi := ⟨some 40, .load 3 (.tmp 39), 3, "ref.go:86", #[⟨2, .data⟩], none⟩) (v := ?_) ?_ ?_
     rotate_left
     ·intro W hW; have hcw := cellU k1 hW; go_simp <;> with_reducible rfl
     try simp only [Act.put, putA, putB, putC]
     refine wpE_t (i := 4) (oi := ⟨some 41, .move (.tmp 1), 22, "ref.go:86", #[], none⟩) (v := ?_) ?_ ?_
     rotate_left
     ·intro W hW; go_simp <;> with_reducible rfl
     try simp only [Act.put, putA, putB, putC]
     refine wpE_t (i := 5) (oi := ⟨some 42, .move (.tmp 7), 3, "ref.go:86", #[], none⟩) (v := ?_) ?_ ?_
     rotate_left
     ·intro W hW; go_simp <;> with_reducible rfl
     try simp only [Act.put, putA, putB, putC]
     refine wpE_t (i := 6) (oi := ⟨some 43, .move (.tmp 8), 3, "ref.go:86", #[], none⟩) (v := ?_) ?_ ?_
     rotate_left
     ·intro W hW; go_simp <;> with_reducible rfl
     try simp only [Act.put, putA, putB, putC]
     refine wpE_t (i := 7) (oi := ⟨some 44, .binOp .add 3 (.tmp 42) (.tmp 43) 3, 3, "ref.go:86", #[⟨5, .data⟩, ⟨6, .data⟩], none⟩) (v := ?_) ?_ ?_
     rotate_left
     ·intro W hW; go_simp <;> with_reducible rfl
     try simp only [Act.put, putA, putB, putC]
     refine wpE_t (i := 8) (oi := ⟨some 45, .indexAddr 22 (.tmp 41) (.tmp 44), 0, "ref.go:86", #[⟨4, .data⟩, ⟨7, .data⟩], none⟩) (v := ?_) ?_ ?_
     rotate_left
     ·intro W hW; go_simp <;> with_reducible rfl
     try simp only [Act.put, putA, putB, putC]
     refine wpE_t (i := 9) (oi := ⟨some 46, .load 5 (.tmp 45), 5, "ref.go:86", #[⟨8, .data⟩], none⟩) (v := ?_) ?_ ?_
     rotate_left
     ·intro W hW; have hcw := cellU c2 hW; go_simp <;> with_reducible rfl
     try simp only [Act.put, putA, putB, putC]
     refine wpE_t (i := 10) (oi := ⟨some 47, .convert 5 3 (.tmp 46), 3, "ref.go:86", #[⟨9, .data⟩], none⟩) (v := ?_) ?_ ?_
     rotate_left
     ·intro W hW; go_simp <;> with_reducible rfl
     try simp only [Act.put, putA, putB, putC]
     refine wpE_t (i := 11) (oi := ⟨some 48, .binOp .add 3 (.tmp 40) (.tmp 47) 3, 3, "ref.go:86", #[⟨3, .data⟩, ⟨10, .data⟩], none⟩) (v := ?_) ?_ ?_
     rotate_left
     ·intro W hW; go_simp <;> with_reducible rfl
     try simp only [Act.put, putA, putB, putC]
     refine wpE_t (i := 12) (oi := ⟨some 49, .indexAddr 88 (.tmp 37) (.tmp 38), 0, "ref.go:86", #[⟨0, .data⟩, ⟨1, .data⟩, ⟨0, .phase⟩, ⟨1, .phase⟩, ⟨2, .phase⟩, ⟨3, .phase⟩, ⟨4, .phase⟩, ⟨5, .phase⟩, ⟨6, .phase⟩, ⟨7, .phase⟩, ⟨8, .phase⟩, ⟨9, .phase⟩, ⟨10, .phase⟩, ⟨11, .phase⟩], none⟩) (v := ?_) ?_ ?_
     rotate_left
     ·intro W hW; go_simp <;> with_reducible rfl
     try simp only [Act.put, putA, putB, putC]
     refine wpE_last (o := ⟨none, .store 3 (.tmp 49) (.tmp 48), 0, "ref.go:86", #[⟨12, .data⟩, ⟨11, .data⟩, ⟨0, .phase⟩, ⟨1, .phase⟩, ⟨2, .phase⟩, ⟨3, .phase⟩, ⟨4, .phase⟩, ⟨5, .phase⟩, ⟨6, .phase⟩, ⟨7, .phase⟩, ⟨8, .phase⟩, ⟨9, .phase⟩, ⟨10, .phase⟩, ⟨11, .phase⟩], none⟩) (by kernel_rfl) (by kernel_rfl) rfl (by rfl) fun K hK => ?_
     go_simp
     refine hK.out _ _ ?_
     clear hK K
     try simp only [Act.put, putA, putB, putC]
     go_wp2
     go_roundw
     case rel => exact ⟨n + 1, o2, by go_num, by omega, HO2, HA2, NewI.drew HK4.out⟩
     case measure => simp [intOf] <;> omega
    ·have hnb : n = bs.length := by omega
     have h1 := HA.out.one (by rw [HO.out]; omega)
     have k4 := k3 ((o.getD n 0 + 1 : Nat) : Int)
     rw [nI_set] at k4
     have HV : Hid (dv (o.set n (o.getD n 0 + 1)) = accN R b j + blkN b j) := by
      show _ = _
      rw [h1.1, HBN.out, hnb, List.take_length]
     have HOB : Hid (∀ y ∈ o.set n (o.getD n 0 + 1), y ≤ 1099511627776) := h1.2
     have HO2 : Hid ((o.set n (o.getD n 0 + 1)).length = L) := by show _ = _; rw [List.length_set]; exact HO.out
     generalize o.set n (o.getD n 0 + 1) = o2 at k4 HV HOB HO2
     generalize o.getD n 0 = z at k1 hz k4
     have es : IntKind.i64.wrap ((z : Int) + 1) = ((z + 1 : Nat) : Int) := by rw [IntWalk.i64_in _ (by omega)]; omega
     have hRD := k4.rd
     have HK4 : Hid _ := k4
     have hcon : n = 16 ∨ (n < 16 ∧ i + n = b.length) := by omega
     clear hNn k3 k4 h1 HA HO hlt2 hbl hnb hn
     rcases hcon with hcon | hcon
     case' inl =>
      subst hcon
     case' inr =>
      have d16 : decide ((n : Int) < 16) = true := decide_eq_true (by omega)
      have d16I : (n : Int) < 16 := by omega
      have db : decide ((i : Int) + (n : Int) < (b.length : Int)) = false := decide_eq_false (by omega)
      have dbI : (b.length : Int) ≤ (i : Int) + (n : Int) := by omega
      clear hcon
     all_goals
      go_wp2_with fail
      refine (carry8_any _ o2 18 18 rfl (by omega) HOB.out (by rw [HO2.out]; omega) _ hRD).mono ?_
      rintro e w4 ⟨v4, L4, rfl, hL4, h184, hx4, hmin, hN4⟩
      rw [HV.out] at hx4 hmin hN4
      rw [HO2.out] at hL4 hmin
      have hL4e : L4 = L := by
       have := hmin L (Nat.le_refl _) hL1 (acc_blk_lt R b j L hL1)
       omega
      subst hL4e
      have HX4 : Hid _ := hx4
      have HB4 : Hid _ := HK4.out.2.trans (hN4.2.mono HK4.out.2.size)
      have HLM4 : Hid ((nI (dgN (accN R b j + blkN b j) L4)).length = L4) := by show _ = _; rw [nI_length, dgN_length]
      obtain ⟨gs, cs, rfl, hgs, hgslt, hcs, hcsx, hcells4, -, -⟩ := hN4.all (by rw [← List.length_pos_iff, HLM4.out]; omega)
      unfold maxLen at hcsx
      have HC4 : Hid (∀ i, i < L4 → w4.cell? ⟨gs, i, none⟩ = some (.int .i64 ((dg (accN R b j + blkN b j) i : Nat) : Int))) := fun i hi => by rw [hcells4 i (by rw [HLM4.out]; exact hi), nI_get, dgN_get _ _ _ hi]
      rw [HLM4.out] at hcs ⊢
      have HAN : Hid (accN R b (j + 1) = (accN R b j + blkN b j) * R % p8) := rfl
      generalize accN R b j + blkN b j = s at hN4 HX4 HC4 HAN HLM4 HV
      obtain ⟨M, hM⟩ : ∃ M : Nat, M = L4 + 16 := ⟨_, rfl⟩
      have wM : IntKind.i64.wrap ((L4 : Int) + 16) = (M : Int) := by rw [IntWalk.i64_in _ (by omega)]; omega
      have hM2 : (M : Int).toNat = M := by omega
      have hM3 : M ≤ 15900000 := by omega
      have HM : Hid (M = L4 + 16) := hM
      clear hmin hx4 hN4 hcells4 hL4 h184 hRD HK4 k1 k2 es hM
      go_wp2_with (at_make; go_must (refine wpList_make_full _ rfl _ _ 88 rfl _ 3 ti _ 1 Tryd.underlying88 hti hz0 hz1 _ _ _ _ M rfl rfl (by omega) (by omega) (by rw [hz2]; omega) (by unfold maxLen; omega) (Nat.le_refl _) ?_))
      intro w5 hown hgr
      have hN5 := NewI.made hown hgr
      have HS5 : Hid _ := Mu8.start s R M
      have HL5 : Hid ((List.replicate M 0).length = M) := List.length_replicate
      rw [← nI_zeros] at hN5
      clear hown hgr
      go_wp2
      go_loopw [10] (fun xv wx => ∃ (x : Nat) (o : List Nat), xv = .int .i64 (x : Int) ∧ x ≤ L4 ∧ Hid (o.length = M) ∧ Hid (Mu8 s R x 0 o) ∧ NewI .i64 3 w4 (.slice (some ⟨w4.heap.size, 0, none⟩) M M) (nI o) wx) (fun xv _ => L4 - (intOf xv).toNat)
      case atStart => exact ⟨0, _, rfl, by omega, HL5, HS5, hN5⟩
      case round =>
       obtain ⟨x, o3, rfl, hx, HO3, HU3, hN6⟩ := hrel
       rename World => WC
       clear hN5 HS5 HL5
       by_cases hxl : x < L4
       ·have dx : decide ((x : Int) < (L4 : Int)) = true := decide_eq_true (by omega)
        have dxI : (x : Int) < (L4 : Int) := by omega
        go_wp2
        go_loopw [11] (fun yv wx => ∃ (y : Nat) (o : List Nat), yv = .int .i64 (y : Int) ∧ y ≤ 16 ∧ Hid (o.length = M) ∧ Hid (Mu8 s R x y o) ∧ NewI .i64 3 w4 (.slice (some ⟨w4.heap.size, 0, none⟩) M M) (nI o) wx) (fun yv _ => 16 - (intOf yv).toNat)
        case atStart => exact ⟨0, _, rfl, by omega, HO3, HU3, hN6⟩
        case round =>
         obtain ⟨y, o4, rfl, hy, HO4, HU4, hN7⟩ := hrel
         rename World => WD
         clear hN6 HO3 HU3
         by_cases hyl : y < 16
         ·have dy : decide ((y : Int) < 16) = true := decide_eq_true (by omega)
          have dyI : (y : Int) < 16 := by omega
          have hMx := HM.out
          have c1 : WD.cell? ⟨gs, x, none⟩ = some (.int .i64 ((dg s x : Nat) : Int)) := by
           rw [hN7.2.cell (p := ⟨gs, x, none⟩) hgslt]
           exact HC4.out x hxl
          have c2 : WD.cell? ⟨br, orr + y, none⟩ = some (.int .u8 ((dg R y : Nat) : Int)) := by
           rw [hN7.2.cell (p := ⟨br, orr + y, none⟩) (Nat.lt_of_lt_of_le hlr HB4.out.size), HB4.out.cell (p := ⟨br, orr + y, none⟩) hlr]
           exact HR.out y hyl
          obtain ⟨g, c, ev, -, -, k1, k2, k3⟩ := hN7.at (j := x + y) (by rw [nI_length, HO4.out]; omega)
          simp only [Value.slice.injEq, Option.some.injEq, Addr.mk.injEq, and_true, true_and] at ev
          obtain ⟨rfl, -, rfl⟩ := ev
          rw [nI_get] at k1
          have hzb := HU4.out.rest (x + y) (Nat.le_refl _)
          have h1 := dg_lt s x
          have h2 := dg_lt R y
          have hpq : dg s x * dg R y ≤ 65025 := Nat.le_trans (Nat.mul_le_mul (show dg s x ≤ 255 by omega) (show dg R y ≤ 255 by omega)) (by omega)
          have k4 := k3 ((o4.getD (x + y) 0 + dg s x * dg R y : Nat) : Int)
          rw [nI_set] at k4
          have HU5 : Hid _ := HU4.out.put (by rw [HO4.out]; omega)
          have HO5 : Hid ((o4.set (x + y) (o4.getD (x + y) 0 + dg s x * dg R y)).length = M) := by show _ = _; rw [List.length_set]; exact HO4.out
          generalize o4.set (x + y) (o4.getD (x + y) 0 + dg s x * dg R y) = o5 at k4 HU5 HO5
          have HK5 : Hid _ := k4
          generalize o4.getD (x + y) 0 = z4 at k1 HK5 hzb
          obtain ⟨m, hm⟩ : ∃ m : Nat, m = dg s x * dg R y := ⟨_, rfl⟩
          have em : IntKind.i64.wrap (((dg s x : Nat) : Int) * ((dg R y : Nat) : Int)) = (m : Int) := by
           rw [← Int.natCast_mul, ← hm]
           exact IntWalk.i64_in _ (by omega)
          have ec : IntKind.i64.wrap ((dg R y : Nat) : Int) = ((dg R y : Nat) : Int) := IntWalk.i64_in _ (by omega)
          rw [← hm] at HK5 hpq
          have es : IntKind.i64.wrap ((z4 : Int) + (m : Int)) = ((z4 + m : Nat) : Int) := by rw [IntWalk.i64_in _ (by omega)]; omega
          have ei : IntKind.i64.wrap ((x : Int) + (y : Int)) = (x : Int) + (y : Int) := IntWalk.i64_in _ (by omega)
          have ein : ((x : Int) + (y : Int)).toNat = x + y := by omega
          have eil : (x : Int) + (y : Int) < (M : Int) := by omega
          have ei0 : (0 : Int) ≤ (x : Int) + (y : Int) := by omega
          clear hN7 k3 k4 h1 h2 hm hzb HO4 HU4 hMx
          go_wp2_with fail
          refine wpE_begin 18 (by kernel_rfl) ?_
          refine wpE_t (i := 0) (oi := ⟨some 74, .move (.tmp 9), 88, "ref.go:94", #[], none⟩) (v := ?_) ?_ ?_
          rotate_left
          ·intro W hW; go_simp <;> with_reducible rfl
          try simp only [Act.put, putA, putB, putC]
          refine wpE_t (i := 1) (oi := ⟨some 75, .move (.tmp 10), 3, "ref.go:94", #[], none⟩) (v := ?_) ?_ ?_
          rotate_left
          ·intro W hW; go_simp <;> with_reducible rfl
          try simp only [Act.put, putA, putB, putC]
          refine wpE_t (i := 2) (oi := ⟨some 76, .move (.tmp 11), 3, "ref.go:94", #[], none⟩) (v := ?_) ?_ ?_
          rotate_left
          ·intro W hW; go_simp <;> with_reducible rfl
          try simp only [Act.put, putA, putB, putC]
          refine wpE_t (i := 3) (oi := ⟨some 77, .binOp .add 3 (.tmp 75) (.tmp 76) 3, 3, "ref.go:94", #[⟨1, .data⟩, ⟨2, .data⟩], none⟩) (v := ?_) ?_ ?_
          rotate_left
          ·intro W hW; go_simp <;> with_reducible rfl
          try simp only [Act.put, putA, putB, putC]
          refine wpE_t (i := 4) (oi := ⟨some 78, .indexAddr 88 (.tmp 74) (.tmp 77), 0, "ref.go:94", #[⟨0, .data⟩, ⟨3, .data⟩], none⟩) (v := ?_) ?_ ?_
          rotate_left
          ·intro W hW; go_simp <;> with_reducible rfl
          try simp only [Act.put, putA, putB, putC]
          refine wpE_t (i := 5) (oi := ⟨some 79, .load 3 (.tmp 78), 3, "ref.go:94", #[⟨4, .data⟩], none⟩) (v := ?_) ?_ ?_
          rotate_left
          ·intro W hW; have hcw := cellU k1 hW; go_simp <;> with_reducible rfl
          try simp only [Act.put, putA, putB, putC]
          refine wpE_t (i := 6) (oi := ⟨some 80, .move (.tmp 6), 88, "ref.go:94", #[], none⟩) (v := ?_) ?_ ?_
          rotate_left
          ·intro W hW; go_simp <;> with_reducible rfl
          try simp only [Act.put, putA, putB, putC]
          refine wpE_t (i := 7) (oi := ⟨some 81, .move (.tmp 10), 3, "ref.go:94", #[], none⟩) (v := ?_) ?_ ?_
          rotate_left
          ·intro W hW; go_simp <;> with_reducible rfl
          try simp only [Act.put, putA, putB, putC]
          refine wpE_t (i := 8) (oi := ⟨some 82, .indexAddr 88 (.tmp 80) (.tmp 81), 0, "ref.go:94", #[⟨6, .data⟩, ⟨7, .data⟩], none⟩) (v := ?_) ?_ ?_
          rotate_left
          ·intro W hW; go_simp <;> with_reducible rfl
          try simp only [Act.put, putA, putB, putC]
          refine wpE_t (i := 9) (oi := ⟨some 83, .load 3 (.tmp 82), 3, "ref.go:94", #[⟨8, .data⟩], none⟩) (v := ?_) ?_ ?_
          rotate_left
          ·intro W hW; have hcw := cellU c1 hW; go_simp <;> with_reducible rfl
          try simp only [Act.put, putA, putB, putC]
          refine wpE_t (i := 10) (oi := ⟨some 84, .move (.tmp 5), 22, "ref.go:94", #[], none⟩) (v := ?_) ?_ ?_
          rotate_left
          ·intro W hW; go_simp <;> with_reducible rfl
          try simp only [Act.put, putA, putB, putC]
          refine wpE_t (i := 11) (oi := ⟨some 85, .move (.tmp 11), 3, "ref.go:94", #[], none⟩) (v := ?_) ?_ ?_
          rotate_left
          ·intro W hW; go_simp <;> with_reducible rfl
          try simp only [Act.put, putA, putB, putC]
          refine wpE_t (i := 12) (oi := ⟨some 86, .indexAddr 22 (.tmp 84) (.tmp 85), 0, "ref.go:94", #[⟨10, .data⟩, ⟨11, .data⟩], none⟩) (v := ?_) ?_ ?_
          rotate_left
          ·intro W hW; go_simp <;> with_reducible rfl
          try simp only [Act.put, putA, putB, putC]
          refine wpE_t (i := 13) (oi := ⟨some 87, .load 5 (.tmp 86), 5, "ref.go:94", #[⟨12, .data⟩], none⟩) (v := ?_) ?_ ?_
          rotate_left
          ·intro W hW; have hcw := cellU c2 hW; go_simp <;> with_reducible rfl
          try simp only [Act.put, putA, putB, putC]
          refine wpE_t (i := 14) (oi := ⟨some 88, .convert 5 3 (.tmp 87), 3, "ref.go:94", #[⟨13, .data⟩], none⟩) (v := ?_) ?_ ?_
          rotate_left
          ·intro W hW; go_simp <;> with_reducible rfl
          try simp only [Act.put, putA, putB, putC]
          refine wpE_t (i := 15) (oi := ⟨some 89, .binOp .mul 3 (.tmp 83) (.tmp 88) 3, 3, "ref.go:94", #[⟨9, .data⟩, ⟨14, .data⟩], none⟩) (v := ?_) ?_ ?_
          rotate_left
          ·intro W hW; go_simp <;> with_reducible rfl
          try simp only [Act.put, putA, putB, putC]
          refine wpE_t (i := 16) (oi := ⟨some 90, .binOp .add 3 (.tmp 79) (.tmp 89) 3, 3, "ref.go:94", #[⟨5, .data⟩, ⟨15, .data⟩], none⟩) (v := ?_) ?_ ?_
          rotate_left
          ·intro W hW; go_simp <;> with_reducible rfl
          try simp only [Act.put, putA, putB, putC]
          refine wpE_t (i := 17) (oi := ⟨some 91, .indexAddr 88 (.tmp 74) (.tmp 77), 0, "ref.go:94", #[⟨0, .data⟩, ⟨3, .data⟩, ⟨0, .phase⟩, ⟨1, .phase⟩, ⟨2, .phase⟩, ⟨3, .phase⟩, ⟨4, .phase⟩, ⟨5, .phase⟩, ⟨6, .phase⟩, ⟨7, .phase⟩, ⟨8, .phase⟩, ⟨9, .phase⟩, ⟨10, .phase⟩, ⟨11, .phase⟩, ⟨12, .phase⟩, ⟨13, .phase⟩, ⟨14, .phase⟩, ⟨15, .phase⟩, ⟨16, .phase⟩], none⟩) (v := ?_) ?_ ?_
          rotate_left
          ·intro W hW; go_simp <;> with_reducible rfl
          try simp only [Act.put, putA, putB, putC]
          refine wpE_last (o := ⟨none, .store 3 (.tmp 91) (.tmp 90), 0, "ref.go:94", #[⟨17, .data⟩, ⟨16, .data⟩, ⟨0, .phase⟩, ⟨1, .phase⟩, ⟨2, .phase⟩, ⟨3, .phase⟩, ⟨4, .phase⟩, ⟨5, .phase⟩, ⟨6, .phase⟩, ⟨7, .phase⟩, ⟨8, .phase⟩, ⟨9, .phase⟩, ⟨10, .phase⟩, ⟨11, .phase⟩, ⟨12, .phase⟩, ⟨13, .phase⟩, ⟨14, .phase⟩, ⟨15, .phase⟩, ⟨16, .phase⟩], none⟩) (by kernel_rfl) (by kernel_rfl) rfl (by rfl) fun K hK => ?_
          go_simp
          refine hK.out _ _ ?_
          clear hK K
          try simp only [Act.put, putA, putB, putC]
          go_wp2
          go_roundw
          case rel => exact ⟨y + 1, o5, by go_num, by omega, HO5, HU5, NewI.drew HK5.out⟩
          case measure => simp [intOf] <;> omega
         ·have hy16 : y = 16 := by omega
          subst hy16
          have HU5 : Hid _ := HU4.out.next HR16.out
          have HK5 : Hid _ := hN7
          clear hN7 HU4
          go_wp2
          go_roundw
          case rel => exact ⟨x + 1, o4, by go_num, by omega, HO4, HU5, HK5.out⟩
          case measure => simp [intOf] <;> omega
       ·have hxe : x = L4 := by omega
        have dx : decide ((x : Int) < (L4 : Int)) = false := decide_eq_false (by omega)
        have dxI : (L4 : Int) ≤ (x : Int) := by omega
        have h1 := HU3.out
        rw [hxe] at h1
        have h2 := h1.done HX4.out (by omega)
        have HV6 : Hid _ := h2.1
        have HB6 : Hid _ := h2.2
        have hRD6 := hN6.rd
        have HB7 : Hid _ := HB4.out.trans (hN6.2.mono HB4.out.size)
        clear h1 h2 hN6 hxe
        go_wp2_with fail
        refine (mod8_any _ o3 HB6.out (by rw [HO3.out]; omega) _ hRD6).mono ?_
        rintro e w8 ⟨v8, L8, rfl, hL8, hL8b, hN8⟩
        rw [HV6.out, ← HAN.out] at hN8
        rw [HO3.out] at hL8b
        have HN8 : Hid _ := hN8.from8 HB7.out
        have hL8c : L8 ≤ 18 + 34 * (j + 1) := by have := HM.out; omega
        have HI2 : Hid ((i : Int) + 16 = ((16 * (j + 1) : Nat) : Int)) := by show _ = _; have := HI.out; omega
        have hj2 : j + 1 ≤ nblk b.length := by have := HI.out; unfold nblk; omega
        clear hN8 hRD6
        go_wp2
        go_roundw
        case rel => exact ⟨j + 1, L8, by rw [← HI2.out], hj2, hL8, hL8c, HN8.out⟩
        case measure => have := HI.out; simp [intOf] <;> omega
  ·have hdi : decide ((i : Int) < (b.length : Int)) = false := decide_eq_false (by omega)
   have hiI : (b.length : Int) ≤ (i : Int) := by omega
   have hje : j = nblk b.length := by unfold nblk at hj ⊢; omega
   obtain ⟨ks, hks⟩ : ∃ ks, ks = (k.drop 16).take 16 := ⟨_, rfl⟩
   have hkl : ks.length = 16 := by rw [hks]; simp [HK.out]
   have HKL : Hid (ks.length = 16) := hkl
   have HKG : Hid (∀ n, n < 16 → ks.getD n 0 = k.getD (16 + n) 0) := fun n hn => by rw [hks]; simp [List.getElem?_take, hn]
   have HMC : Hid (mcP k b = (List.range 16).map (stB (accN R b j + leN ks))) := by show _ = _; unfold mcP; rw [hje, hks, HRE.out]
   have HLE : Hid ((dgN (accN R b j) L).length = L) := dgN_length _ _
   have HS : Hid _ := Ad8.start (accN R b j) L ks HAL.out
   clear hks hkl hje hi
   go_wp2
   go_loopw [12] (fun nv wx => ∃ (n : Nat) (o : List Nat), nv = .int .i64 (n : Int) ∧ n ≤ 16 ∧ Hid (o.length = L) ∧ Hid (Ad8 (accN R b j) ks n o) ∧ NewI .i64 3 w1 (.slice (some ⟨ga, 0, none⟩) L ca) (nI o) wx) (fun nv _ => 16 - (intOf nv).toNat)
   case atStart => exact ⟨0, _, rfl, by omega, HLE, HS, hN⟩
   case round =>
    obtain ⟨n, o, rfl, hn, HO, HA, hNn⟩ := hrel
    rename World => WB
    clear hN HS HLE
    by_cases hlt2 : n < 16
    ·have d16 : decide ((n : Int) < 16) = true := decide_eq_true (by omega)
     have d16I : (n : Int) < 16 := by omega
     obtain ⟨g, c, ev, -, -, k1, k2, k3⟩ := hNn.at (j := n) (by rw [nI_length, HO.out]; omega)
     simp only [Value.slice.injEq, Option.some.injEq, Addr.mk.injEq, and_true, true_and] at ev
     obtain ⟨rfl, -, rfl⟩ := ev
     rw [nI_get] at k1
     have hz := HA.out.rest n (Nat.le_refl _)
     have wi : IntKind.i64.wrap (16 + (n : Int)) = 16 + (n : Int) := IntWalk.i64_in _ (by omega)
     have hnL : (n : Int) < (L : Int) := by omega
     have dbI : 16 + (n : Int) < 32 := by omega
     have ein : (16 + (n : Int)).toNat = 16 + n := by omega
     have ei0 : (0 : Int) ≤ 16 + (n : Int) := by omega
     have c2 : WB.cell? ⟨bk, ok + (16 + n), none⟩ = some (.int .u8 (((ks.getD n 0).toNat : Nat) : Int)) := by
      rw [hNn.2.cell (p := ⟨bk, ok + (16 + n), none⟩) (Nat.lt_of_lt_of_le hlk HB1.out.size), HB1.out.cell (p := ⟨bk, ok + (16 + n), none⟩) hlk, HKG.out n (by omega)]
      exact HKC.out (16 + n) (by rw [HK.out]; omega)
     have k4 := k3 ((o.getD n 0 + (ks.getD n 0).toNat : Nat) : Int)
     rw [nI_set] at k4
     have HA2 : Hid _ := HA.out.put (by rw [HKL.out]; omega) (by rw [HO.out]; omega)
     have HO2 : Hid ((o.set n (o.getD n 0 + (ks.getD n 0).toNat)).length = L) := by show _ = _; rw [List.length_set]; exact HO.out
     have hbt := (ks.getD n 0).toNat_lt
     generalize o.set n (o.getD n 0 + (ks.getD n 0).toNat) = o2 at k4 HA2 HO2
     have HK4 : Hid _ := k4
     generalize o.getD n 0 = z at k1 hz HK4
     generalize (ks.getD n 0).toNat = t at c2 hbt HK4
     have es : IntKind.i64.wrap ((z : Int) + (t : Int)) = ((z + t : Nat) : Int) := by rw [IntWalk.i64_in _ (by omega)]; omega
     have et : IntKind.i64.wrap (t : Int) = (t : Int) := IntWalk.i64_in _ (by omega)
     clear hNn k3 k4
     go_wp2_with fail
     refine wpE_begin 12 (by kernel_rfl) ?_
     refine wpE_t (i := 0) (oi := ⟨some 98, .move (.tmp 6), 88, "ref.go:100", #[], none⟩) (v := ?_) ?_ ?_
     rotate_left
     ·intro W hW; go_simp <;> with_reducible rfl
     try simp only [Act.put, putA, putB, putC]
     refine wpE_t (i := 1) (oi := ⟨some 99, .move (.tmp 12), 3, "ref.go:100", #[], none⟩) (v := ?_) ?_ ?_
     rotate_left
     ·intro W hW; go_simp <;> with_reducible rfl
     try simp only [Act.put, putA, putB, putC]
     refine wpE_t (i := 2) (oi := ⟨some 100, .indexAddr 88 (.tmp 98) (.tmp 99), 0, "ref.go:100", #[⟨0, .data⟩, ⟨1, .data⟩], none⟩) (v := ?_) ?_ ?_
     rotate_left
     ·intro W hW; go_simp <;> with_reducible rfl
     try simp only [Act.put, putA, putB, putC]
     refine wpE_t (i := 3) (oi := ⟨some 101, .load 3 (.tmp 100), 3, "ref.go:100", #[⟨2, .data⟩], none⟩) (v := ?_) ?_ ?_
     rotate_left
     ·intro W hW; have hcw := cellU k1 hW; go_simp <;> with_reducible rfl
     try simp only [Act.put, putA, putB, putC]
     refine wpE_t (i := 4) (oi := ⟨some 102, .move (.tmp 0), 22, "ref.go:100", #[], none⟩) (v := ?_) ?_ ?_
     rotate_left
     ·intro W hW; go_simp <;> with_reducible rfl
     try simp only [Act.put, putA, putB, putC]
     refine wpE_t (i := 5) (oi := ⟨some 103, .move (.tmp 12), 3, "ref.go:100", #[], none⟩) (v := ?_) ?_ ?_
     rotate_left
     ·intro W hW; go_simp <;> with_reducible rfl
     try simp only [Act.put, putA, putB, putC]
     refine wpE_t (i := 6) (oi := ⟨some 104, .binOp .add 3 (.const (.int .i64 16)) (.tmp 103) 3, 3, "ref.go:100", #[⟨5, .data⟩], none⟩) (v := ?_) ?_ ?_
     rotate_left
     ·intro W hW; go_simp <;> with_reducible rfl
     try simp only [Act.put, putA, putB, putC]
     refine wpE_t (i := 7) (oi := ⟨some 105, .indexAddr 22 (.tmp 102) (.tmp 104), 0, "ref.go:100", #[⟨4, .data⟩, ⟨6, .data⟩], none⟩) (v := ?_) ?_ ?_
     rotate_left
     ·intro W hW; go_simp <;> with_reducible rfl
     try simp only [Act.put, putA, putB, putC]
     refine wpE_t (i := 8) (oi := ⟨some 106, .load 5 (.tmp 105), 5, "ref.go:100", #[⟨7, .data⟩], none⟩) (v := ?_) ?_ ?_
     rotate_left
     ·intro W hW; have hcw := cellU c2 hW; go_simp <;> with_reducible rfl
     try simp only [Act.put, putA, putB, putC]
     refine wpE_t (i := 9) (oi := ⟨some 107, .convert 5 3 (.tmp 106), 3, "ref.go:100", #[⟨8, .data⟩], none⟩) (v := ?_) ?_ ?_
     rotate_left
     ·intro W hW; go_simp <;> with_reducible rfl
     try simp only [Act.put, putA, putB, putC]
     refine wpE_t (i := 10) (oi := ⟨some 108, .binOp .add 3 (.tmp 101) (.tmp 107) 3, 3, "ref.go:100", #[⟨3, .data⟩, ⟨9, .data⟩], none⟩) (v := ?_) ?_ ?_
     rotate_left
     ·intro W hW; go_simp <;> with_reducible rfl
     try simp only [Act.put, putA, putB, putC]
     refine wpE_t (i := 11) (oi := ⟨some 109, .indexAddr 88 (.tmp 98) (.tmp 99), 0, "ref.go:100", #[⟨0, .data⟩, ⟨1, .data⟩, ⟨0, .phase⟩, ⟨1, .phase⟩, ⟨2, .phase⟩, ⟨3, .phase⟩, ⟨4, .phase⟩, ⟨5, .phase⟩, ⟨6, .phase⟩, ⟨7, .phase⟩, ⟨8, .phase⟩, ⟨9, .phase⟩, ⟨10, .phase⟩], none⟩) (v := ?_) ?_ ?_
     rotate_left
     ·intro W hW; go_simp <;> with_reducible rfl
     try simp only [Act.put, putA, putB, putC]
     refine wpE_last (o := ⟨none, .store 3 (.tmp 109) (.tmp 108), 0, "ref.go:100", #[⟨11, .data⟩, ⟨10, .data⟩, ⟨0, .phase⟩, ⟨1, .phase⟩, ⟨2, .phase⟩, ⟨3, .phase⟩, ⟨4, .phase⟩, ⟨5, .phase⟩, ⟨6, .phase⟩, ⟨7, .phase⟩, ⟨8, .phase⟩, ⟨9, .phase⟩, ⟨10, .phase⟩], none⟩) (by kernel_rfl) (by kernel_rfl) rfl (by rfl) fun K hK => ?_
     go_simp
     refine hK.out _ _ ?_
     clear hK K
     try simp only [Act.put, putA, putB, putC]
     go_wp2
     go_roundw
     case rel => exact ⟨n + 1, o2, by go_num, by omega, HO2, HA2, NewI.drew HK4.out⟩
     case measure => simp [intOf] <;> omega
    ·have hn16 : n = 16 := by omega
     subst hn16
     have HV : Hid (dv o = accN R b j + leN ks) := by
      have h := HA.out.val
      rw [List.take_of_length_le (by rw [HKL.out]; decide)] at h
      exact h
     have HOB : Hid (∀ y ∈ o, y ≤ 1099511627776) := fun y hy => by have := HA.out.all y hy; omega
     have hRD := hNn.rd
     have HB3 : Hid _ := HB1.out.trans (hNn.2.mono HB1.out.size)
     clear hNn HA hlt2
     go_wp2_with fail
     refine (carry8_any _ o 18 18 rfl (by omega) HOB.out (by rw [HO.out]; omega) _ hRD).mono ?_
     rintro e w4 ⟨v4, L4, rfl, hL4, h184, hx4, hmin, hN4⟩
     rw [HV.out] at hN4
     have HB4 : Hid _ := HB3.out.trans (hN4.2.mono HB3.out.size)
     have HLM4 : Hid ((nI (dgN (accN R b j + leN ks) L4)).length = L4) := by show _ = _; rw [nI_length, dgN_length]
     obtain ⟨gs, cs, rfl, hgs, hgslt, hcs, hcsx, hcells4, -, -⟩ := hN4.all (by rw [← List.length_pos_iff, HLM4.out]; omega)
     unfold maxLen at hcsx
     have HC4 : Hid (∀ i, i < L4 → w4.cell? ⟨gs, i, none⟩ = some (.int .i64 ((dg (accN R b j + leN ks) i : Nat) : Int))) := fun i hi => by rw [hcells4 i (by rw [HLM4.out]; exact hi), nI_get, dgN_get _ _ _ hi]
     rw [HLM4.out] at hcs ⊢
     generalize accN R b j + leN ks = s at HMC HC4
     clear hmin hx4 hN4 hcells4 hL4 hRD HLM4 HV HOB HO
     go_wp2
     go_loopw [13, 14] (fun v iv wx => ∃ i : Nat, i ≤ 16 ∧ iv = .int .i64 (i : Int) ∧ New 5 w4 v ((List.range i).map (stB s)) wx) (fun _ iv _ => 16 - (intOf iv).toNat)
     case atStart => exact ⟨0, by omega, rfl, New.start w4⟩
     case round =>
      obtain ⟨m, hm, rfl, hNo⟩ := hrel
      rename World => WC
      by_cases hl : m < 16
      ·have hd : decide ((m : Int) < 16) = true := decide_eq_true (by omega)
       have hmI : (m : Int) < 16 := by omega
       have hmL : (m : Int) < (L4 : Int) := by omega
       have c1 : WC.cell? ⟨gs, m, none⟩ = some (.int .i64 ((dg s m : Nat) : Int)) := by
        rw [hNo.2.cell (p := ⟨gs, m, none⟩) hgslt]
        exact HC4.out m (by omega)
       have hw := stB_dg s m
       have HN : Hid ((List.range m).map (stB s) ++ [stB s m] = (List.range (m + 1)).map (stB s)) := by
        show _ = _
        rw [List.range_succ, List.map_append]
        rfl
       generalize dg s m = p at c1 hw
       generalize stB s m = q at hw HN
       have hLt : Rd (WC.alloc (.cells #[.int .u8 (q.toNat : Int)] 5)) (.slice (some ⟨WC.heap.size, 0, none⟩) 1 1) [q] := Rd.lit1 q rfl
       have hlen : ((List.range m).map (stB s)).length + [q].length ≤ 140737488355328 := by simp; omega
       go_wp2_with (at_builtin; go_must (refine wpList_append_new (w := w4) rfl _ _ 22 rfl 5 Tryd.underlying22 infoU88 _ _ rfl (hNo.alloc _) _ _ rfl hLt hlen ?_))
       intro v3 w3 hN3 _
       rw [HN.out] at hN3
       clear hNo hLt hlen
       go_wp2
       go_roundw
       case rel => exact ⟨m + 1, by omega, by go_num, hN3⟩
       case measure => simp [intOf] <;> omega
      ·have hm16 : m = 16 := by omega
       subst hm16
       have hF := New.from hNo HB4.out
       rw [← HMC.out] at hF
       have HF : Hid _ := hF
       clear hNo hF
       go_wp2
       go_ret
       exact ⟨_, rfl, HF.out⟩
def lenOf : Value → Nat
 | .slice _ n _ => n
 | _ => 0
def flJ (b : List UInt8) (j : Nat) : List UInt8 := b ++ List.replicate j 0
theorem flJ_next (b : List UInt8) (j : Nat) : flJ b j ++ [(0 : UInt8)] = flJ b (j + 1) := by
 unfold flJ
 rw [List.append_assoc, ← List.replicate_succ']
theorem flJ_length (b : List UInt8) (j : Nat) : (flJ b j).length = b.length + j := by simp [flJ]
theorem pd16_on (n j : Nat) (h : j < pd16 n) : ((((n + j : Nat) : Int) % 16) != 0) = true := by
 unfold pd16 at h
 simp
 omega
theorem pd16_off (n : Nat) : ((((n + pd16 n : Nat) : Int) % 16) != 0) = false := by
 unfold pd16
 simp
 omega

set_option maxRecDepth 100000 in
set_option maxHeartbeats 1000000 in
theorem fillR_any (vb : Value) (b : List UInt8) (hl : b.length ≤ 100000000000) (w : World) (hb : Rd w vb b) :
  Calls Tryd.prog 47 #[vb] w fun e w' => ∃ r, e = .returned r ∧ New 5 w r (flL b) w' := by
 have HL : Hid (b.length ≤ 100000000000) := hl
 have HL0 : Hid (([] : List UInt8).length + b.length ≤ 140737488355328) := by show _ ≤ _; simp; omega
 have hN0 : New 5 w (.slice none 0 0) [] w := New.start w
 clear hl
 go_enter Tryd.func47, Tryd.ntmps47
 go_wp2_with (at_builtin; go_must (refine wpList_append_new (w := w) rfl _ _ 22 rfl 5 Tryd.underlying22 infoU8 _ _ rfl hN0 _ _ rfl hb HL0.out ?_))
 intro v1 w1 hN1 _
 go_wp2
 go_loopw [3] (fun v wx => ∃ j : Nat, j ≤ pd16 b.length ∧ New 5 w v (flJ b j) wx) (fun v _ => pd16 b.length + b.length - lenOf v)
 case atStart => exact ⟨0, Nat.zero_le _, by simpa [flJ] using hN1⟩
 case round =>
  obtain ⟨j, hj, hN⟩ := hrel
  clear hN1
  obtain ⟨a, c, rfl, hc, hm, -, -⟩ := id hN.rd
  unfold maxLen at hm
  have hlen : (flJ b j).length = b.length + j := flJ_length b j
  have HS : Hid (b.length + j + 1 ≤ 140737488355328) := by show _ ≤ _; have := HL.out; have := pd16_lt b.length; omega
  obtain ⟨m, hm2⟩ : ∃ m : Nat, m = b.length + j := ⟨_, rfl⟩
  by_cases hlt : j < pd16 b.length
  ·have hd := pd16_on b.length j hlt
   rw [← hm2] at hd
   rw [hlen, ← hm2] at hN ⊢
   have HN : Hid (New _ _ _ _ _) := hN
   have HM : Hid _ := hm2
   clear hN hm hlen hm2 hc
   go_wp2_with (at_builtin; go_must (refine wpList_append_new (w := w) rfl _ _ 22 rfl 5 Tryd.underlying22 infoU8 _ _ rfl (HN.out.alloc _) _ _ rfl (Rd.lit1 (0 : UInt8) rfl) (by rw [flJ_length]; exact HS.out) ?_))
   intro v2 w2 hN2 _
   rw [flJ_next] at hN2
   obtain ⟨a2, c2, rfl, -, -, -, -⟩ := id hN2.rd
   go_wp2
   go_roundw
   case rel => exact ⟨j + 1, by omega, hN2⟩
   case measure => have := HM.out; simp [lenOf, flJ_length]; omega
  ·have hje : j = pd16 b.length := by omega
   have hd := pd16_off b.length
   rw [← hje, ← hm2] at hd
   rw [hlen, ← hm2] at hN ⊢
   have HN : Hid (New _ _ _ _ _) := hN
   have HF : Hid (flL b = flJ b j) := by show _ = _; rw [hje]; rfl
   clear hN hm hlen
   go_wp2
   go_ret
   exact ⟨_, rfl, by rw [HF.out]; exact HN.out⟩

set_option maxRecDepth 100000 in
set_option maxHeartbeats 2000000 in
theorem tagR_any (vk vn va vb : Value) (k n a b : List UInt8) (hk32 : k.length = 32) (hn12 : n.length = 12) (hla : a.length ≤ 3000000) (hlb : b.length ≤ 3000000) (w : World) (hk : Rd w vk k) (hn : Rd w vn n) (ha : Rd w va a) (hb : Rd w vb b) :
  Calls Tryd.prog 36 #[vk, vn, va, vb] w fun e w' => ∃ r, e = .returned r ∧ New 5 w r (tgL k n a b) w' := by
 have HK : Hid (k.length = 32) := hk32
 have HN : Hid (n.length = 12) := hn12
 have HA : Hid (a.length ≤ 3000000) := hla
 have HB : Hid (b.length ≤ 3000000) := hlb
 have HP : Hid (pd16 a.length < 16 ∧ pd16 b.length < 16) := ⟨pd16_lt _, pd16_lt _⟩
 obtain ⟨aa, ca, rfl, hca, hma, -, -⟩ := id ha
 obtain ⟨ab, cb, rfl, hcb, hmb, -, -⟩ := id hb
 unfold maxLen at hma hmb
 have HK0 : Hid (Rd w vk k) := hk
 have HN0 : Hid (Rd w vn n) := hn
 clear hk32 hn12 hla hlb
 go_enter Tryd.func36, Tryd.ntmps36
 go_wp2_with fail
 refine (fillR_any _ a (by have := HA.out; omega) _ ha).mono ?_
 rintro e w1 ⟨v1, rfl, hN1⟩
 replace hk := hk.kept hN1.2
 replace hn := hn.kept hN1.2
 replace hb := hb.kept hN1.2
 go_wp2_with fail
 refine (fillR_any _ b (by have := HB.out; omega) _ hb).mono ?_
 rintro e w2 ⟨v2, rfl, hN2⟩
 replace hk := hk.kept hN2.2
 replace hn := hn.kept hN2.2
 replace hN1 := hN1.kept hN2.2
 have h2 := hN2.rd
 clear hN2 ha hb
 have HL : Hid ((flL a).length + (flL b).length ≤ 140737488355328) := by show _ ≤ _; have := HA.out; have := HB.out; have := HP.out; rw [flL_length, flL_length]; omega
 go_wp2_with (at_builtin; go_must (refine wpList_append_new (w := w) rfl _ _ 22 rfl 5 Tryd.underlying22 infoU8 _ _ rfl hN1 _ _ rfl h2 HL.out ?_))
 intro v3 w3 hN3 hg3
 replace hk := HK0.out.kept hN3.2
 replace hn := HN0.out.kept hN3.2
 clear h2 hg3 hN1 HL
 go_wp2_with fail
 refine (refstore_k a.length (by have := HA.out; omega) 8 8 (by decide) (by omega) _).mono ?_
 rintro e w4 ⟨v4, rfl, hN4⟩
 replace hk := hk.kept hN4.2
 replace hn := hn.kept hN4.2
 replace hN3 := hN3.kept hN4.2
 have h4 : Rd w4 v4 (st8 a.length) := hN4.rd
 have HL : Hid ((flL a ++ flL b).length + (st8 a.length).length ≤ 140737488355328) := by show _ ≤ _; have := HA.out; have := HB.out; have := HP.out; rw [List.length_append, flL_length, flL_length, st8_length]; omega
 clear hN4
 go_wp2_with (at_builtin; go_must (refine wpList_append_new (w := w) rfl _ _ 22 rfl 5 Tryd.underlying22 infoU8 _ _ rfl hN3 _ _ rfl h4 HL.out ?_))
 intro v5 w5 hN5 hg5
 replace hk := HK0.out.kept hN5.2
 replace hn := HN0.out.kept hN5.2
 clear h4 hg5 hN3 HL
 go_wp2_with fail
 refine (refstore_k b.length (by have := HB.out; omega) 8 8 (by decide) (by omega) _).mono ?_
 rintro e w6 ⟨v6, rfl, hN6⟩
 replace hk := hk.kept hN6.2
 replace hn := hn.kept hN6.2
 replace hN5 := hN5.kept hN6.2
 have h6 : Rd w6 v6 (st8 b.length) := hN6.rd
 have HL : Hid ((flL a ++ (flL b ++ st8 a.length)).length + (st8 b.length).length ≤ 140737488355328) := by show _ ≤ _; have := HA.out; have := HB.out; have := HP.out; rw [List.length_append, List.length_append, flL_length, flL_length, st8_length, st8_length]; omega
 clear hN6
 go_wp2_with (at_builtin; go_must (refine wpList_append_new (w := w) rfl _ _ 22 rfl 5 Tryd.underlying22 infoU8 _ _ rfl hN5 _ _ rfl h6 HL.out ?_))
 intro v7 w7 hN7 hg7
 replace hk := HK0.out.kept hN7.2
 replace hn := HN0.out.kept hN7.2
 have HI : Hid (New 5 w v7 (tgI a b) w7) := by
  show New _ _ _ _ _
  have e : tgI a b = flL a ++ (flL b ++ (st8 a.length ++ st8 b.length)) := by simp [tgI]
  rw [e]
  exact hN7
 clear h6 hg7 hN5 HL hN7
 go_wp2_with fail
 refine (blockR_any _ _ k n 0 _ rfl (by decide) _ hk hn HK.out HN.out).mono ?_
 rintro e w8 ⟨v8, rfl, hN8⟩
 have h8 := hN8.rd
 have hI := HI.out.kept hN8.2
 obtain ⟨a8, c8, rfl, hc8, hm8, -, -⟩ := id h8
 rw [bkL_length] at h8 hc8 ⊢
 have ht := h8.take (n := 32) (by decide)
 have HT : Hid (((bkL k 0 n).take 32).length = 32) := by show _ = _; rw [List.length_take, bkL_length]; rfl
 have HTI : Hid ((tgI a b).length ≤ 7000000) := by show _ ≤ _; have := HA.out; have := HB.out; have := HP.out; rw [tgI_length]; omega
 have HE : Hid (tgL k n a b = mcP ((bkL k 0 n).take 32) (tgI a b)) := rfl
 generalize (bkL k 0 n).take 32 = K at ht HT HE
 generalize tgI a b = I at hI HTI HE
 clear h8 hN8 HI
 go_wp2_with fail
 refine (mac8_any _ _ K I HT.out HTI.out _ ht hI.rd).mono ?_
 rintro e w9 ⟨v9, rfl, hN9⟩
 rw [← HE.out] at hN9
 go_wp2
 go_ret
 exact ⟨_, rfl, hN9.from hI.2⟩
end Go.Proofs.YtdlmmcilembjgaaDoor
