/- What functions of the program, or of the reference, answer: contracts; several texts in one. -/
import Derived.Test.YtliiofjcghdjoaaDoorBase
import Derived.Test.YtliiofjcghdjoaaDoorChecked
import Derived.OwnWalk
import Derived.Test.YtliiofjcghdjoaaDoorRows
import Derived.Deep.QuietTactic
import Derived.BigQuiet
import Derived.WalkSpells
import Derived.RegionTactic
import Derived.BigRegion
import Derived.Laws.BitsAllLaws
import Derived.Laws.Externs
import Derived.Lib.Mul64
import Derived.Lib.MinMax

/- What the document's own turning of a word, and quarter round, are: contracts of the reference of layer 7. -/
namespace Go.Proofs.YtliiofjcghdjoaaDoor
open Go.ChangeShapes Go.WideShapes Go.ChangeAt Go.RowKit
set_option linter.unusedSimpArgs false
set_option linter.unusedVariables false

set_option maxRecDepth 100000 in
set_option maxHeartbeats 1000000 in
theorem turnR_any (x n : Nat) (hx : x < 4294967296) (hn : n ≤ 32) (X M : Int) (hX : X = (x : Int)) (hM : M = (n : Int)) (w : World) :
    Calls Tryd.prog 86 #[.int .u64 X, .int .i64 M] w fun e w' => e = .returned (.int .u64 ((trn x n : Nat) : Int)) ∧ w' = w := by
  subst hX hM
  go_enter Tryd.func86, Tryd.ntmps86
  go_wp2
  go_loop [0, 5] (fun xv iv => ∃ i y : Nat, i ≤ n ∧ iv = .int .i64 (i : Int) ∧ xv = .int .u64 (y : Int) ∧ y < 4294967296 ∧ Hid (y = trn x i)) (fun _ iv => n - (intOf iv).toNat)
  case atStart => exact ⟨0, x, by omega, rfl, rfl, hx, (by show _ = _; rfl)⟩
  case round =>
    obtain ⟨i, y, hi, rfl, rfl, hy, HY⟩ := hrel
    by_cases hlt : i < n
    · have hd : decide ((i : Int) < (n : Int)) = true := decide_eq_true (by omega)
      have hiI : (i : Int) < (n : Int) := by omega
      obtain ⟨y2, hy2⟩ : ∃ z : Nat, z = y * 2 := ⟨_, rfl⟩
      have e1 : IntKind.u64.wrap ((y : Int) * 2) = (y2 : Int) := by rw [IntKind.wrap_u64]; omega
      by_cases hc : 4294967296 ≤ y2
      · have hd2 : decide ((4294967296 : Int) ≤ (y2 : Int)) = true := decide_eq_true (by omega)
        have hc2 : (4294967296 : Int) ≤ (y2 : Int) := by omega
        obtain ⟨y3, hy3⟩ : ∃ z : Nat, z = y2 - 4294967296 := ⟨_, rfl⟩
        obtain ⟨y4, hy4⟩ : ∃ z : Nat, z = y3 + 1 := ⟨_, rfl⟩
        have e2 : IntKind.u64.wrap ((y2 : Int) - 4294967296) = (y3 : Int) := by rw [IntKind.wrap_u64]; omega
        have e3 : IntKind.u64.wrap ((y3 : Int) + 1) = (y4 : Int) := by rw [IntKind.wrap_u64]; omega
        have HY2 : Hid (y4 = trn x (i + 1)) := by
          show y4 = tr1 (trn x i)
          rw [← HY.out]
          unfold tr1
          rw [if_pos (by omega)]
          omega
        have h4 : y4 < 4294967296 := by omega
        clear hy2 hy3 hy4 HY
        go_wp2
        go_round
        case rel => exact ⟨i + 1, y4, by omega, by go_num, rfl, h4, HY2⟩
        case measure => simp [intOf] <;> omega
      · have hd2 : decide ((4294967296 : Int) ≤ (y2 : Int)) = false := decide_eq_false (by omega)
        have hc2 : (y2 : Int) < 4294967296 := by omega
        have HY2 : Hid (y2 = trn x (i + 1)) := by
          show y2 = tr1 (trn x i)
          rw [← HY.out]
          unfold tr1
          rw [if_neg (by omega)]
          omega
        have h4 : y2 < 4294967296 := by omega
        clear hy2 HY
        go_wp2
        go_round
        case rel => exact ⟨i + 1, y2, by omega, by go_num, rfl, h4, HY2⟩
        case measure => simp [intOf] <;> omega
    · have hie : i = n := by omega
      have hd : decide ((i : Int) < (n : Int)) = false := decide_eq_false (by omega)
      have hiI : (n : Int) ≤ (i : Int) := by omega
      have HY2 : Hid (y = trn x n) := by rw [← hie]; exact HY
      clear HY hie
      go_wp2
      go_ret
      exact ⟨by rw [← HY2.out]; rfl, rfl⟩

/-- Where a quarter round stands. -/
def qk (q : Q4) : Nat → Q4
  | 0 => q
  | 1 => qh q 16 12
  | _ => qr q
theorem qk_ok {q : Q4} (h : q.ok) (k : Nat) : (qk q k).ok := by
  match k with
  | 0 => exact h
  | 1 => exact qh_ok h _ _
  | (n + 2) => exact qr_ok h
theorem qk_next (q : Q4) (k m n : Nat) (hk : (k = 0 ∧ m = 16 ∧ n = 12) ∨ (k = 1 ∧ m = 8 ∧ n = 7)) : qh (qk q k) m n = qk q (k + 1) := by
  rcases hk with ⟨rfl, rfl, rfl⟩ | ⟨rfl, rfl, rfl⟩ <;> rfl
def byL : List Nat := [16, 12, 8, 7]

set_option maxRecDepth 100000 in
set_option maxHeartbeats 2000000 in
theorem quarterR_any (q : Q4) (hq : q.ok) (A B C D : Int) (hA : A = (q.a : Int)) (hB : B = (q.b : Int)) (hC : C = (q.c : Int)) (hD : D = (q.d : Int)) (w : World) :
    Calls Tryd.prog 72 #[.int .u64 A, .int .u64 B, .int .u64 C, .int .u64 D] w fun e w' => e = .returned (.tuple #[.int .u64 ((qr q).a : Int), .int .u64 ((qr q).b : Int), .int .u64 ((qr q).c : Int), .int .u64 ((qr q).d : Int)]) ∧ Below w.heap.size w w' := by
  subst hA hB hC hD
  have HQ : Hid q.ok := hq
  clear hq
  go_enter Tryd.func72, Tryd.ntmps72
  have hL : NewI .i64 3 w (.slice (some ⟨w.heap.size, 0, none⟩) 4 4) (nI byL) (w.alloc (.cells #[.int .i64 16, .int .i64 12, .int .i64 8, .int .i64 7] 3)) := NewI.lit (nI byL) rfl rfl rfl (by decide)
  have hR := hL.rd
  have hbw := hL.2
  go_wp2
  generalize w.alloc (.cells #[.int .i64 16, .int .i64 12, .int .i64 8, .int .i64 7] 3) = w1 at hR hbw ⊢
  clear hL
  go_loop [0, 1, 2, 3, 13] (fun av bv' cv dv iv => ∃ (k : Nat) (p : Q4), k ≤ 2 ∧ iv = .int .i64 ((2 * k : Nat) : Int) ∧ av = .int .u64 (p.a : Int) ∧ bv' = .int .u64 (p.b : Int) ∧ cv = .int .u64 (p.c : Int) ∧ dv = .int .u64 (p.d : Int) ∧ Hid (p = qk q k)) (fun _ _ _ _ iv => 4 - (intOf iv).toNat)
  case atStart => exact ⟨0, q, by omega, rfl, rfl, rfl, rfl, rfl, (by show _ = _; rfl)⟩
  case round =>
    obtain ⟨k, p, hk, rfl, rfl, rfl, rfl, rfl, HP⟩ := hrel
    have hpok : p.ok := by rw [HP.out]; exact qk_ok HQ.out k
    obtain ⟨a, b, c, d⟩ := p
    obtain ⟨ha, hb, hc, hd⟩ := hpok
    simp only at ha hb hc hd
    by_cases hlt : k < 2
    · obtain ⟨m, n, hmn, hm32, hn32⟩ : ∃ m n : Nat, ((k = 0 ∧ m = 16 ∧ n = 12) ∨ (k = 1 ∧ m = 8 ∧ n = 7)) ∧ m ≤ 32 ∧ n ≤ 32 := by
        by_cases h0 : k = 0
        · exact ⟨16, 12, .inl ⟨h0, rfl, rfl⟩, by omega, by omega⟩
        · exact ⟨8, 7, .inr ⟨by omega, rfl, rfl⟩, by omega, by omega⟩
      obtain ⟨i, hi⟩ : ∃ i : Nat, i = 2 * k := ⟨_, rfl⟩
      have c0 : w1.cell? ⟨w.heap.size, i, none⟩ = some (.int .i64 (m : Int)) := by
        obtain ⟨bb, oo, cc, ev, -, hcell, -⟩ := hR.cellAt (i := i) (by rw [nI_length]; show i < 4; omega)
        simp only [Value.slice.injEq, Option.some.injEq, Addr.mk.injEq, and_true, true_and] at ev
        obtain ⟨⟨rfl, rfl⟩, -⟩ := ev
        rw [Nat.zero_add] at hcell
        rw [hcell, nI_get, hi]
        rcases hmn with ⟨rfl, rfl, rfl⟩ | ⟨rfl, rfl, rfl⟩ <;> rfl
      have c1 : w1.cell? ⟨w.heap.size, i + 1, none⟩ = some (.int .i64 (n : Int)) := by
        obtain ⟨bb, oo, cc, ev, -, hcell, -⟩ := hR.cellAt (i := i + 1) (by rw [nI_length]; show i + 1 < 4; omega)
        simp only [Value.slice.injEq, Option.some.injEq, Addr.mk.injEq, and_true, true_and] at ev
        obtain ⟨⟨rfl, rfl⟩, -⟩ := ev
        rw [Nat.zero_add] at hcell
        rw [hcell, nI_get, hi]
        rcases hmn with ⟨rfl, rfl, rfl⟩ | ⟨rfl, rfl, rfl⟩ <;> rfl
      have hdI : decide ((i : Int) < 4) = true := decide_eq_true (by omega)
      have hiI : (i : Int) < 4 := by omega
      have hi1 : (i : Int) + 1 < 4 := by omega
      have hin : i < 4 := by omega
      have hi1n : i + 1 < 4 := by omega
      obtain ⟨s1, hs1⟩ : ∃ z : Nat, z = a + b := ⟨_, rfl⟩
      obtain ⟨a', ha'⟩ : ∃ z : Nat, z = s1 % 4294967296 := ⟨_, rfl⟩
      have e1 : IntKind.u64.wrap ((a : Int) + (b : Int)) = (s1 : Int) := by rw [IntKind.wrap_u64]; omega
      have e2 : ((s1 : Nat) : Int).tmod 4294967296 = (a' : Int) := by rw [Int.tmod_eq_emod_of_nonneg (by omega)]; omega
      have hab : a' < 4294967296 := by omega
      have e3 : IntKind.u64.wrap (a' : Int) = (a' : Int) := by rw [IntKind.wrap_u64]; omega
      obtain ⟨x1, hx1⟩ : ∃ z : Nat, z = d ^^^ a' := ⟨_, rfl⟩
      have hx1b : x1 < 4294967296 := by rw [hx1]; exact xor32 hd hab
      have e4 : bits .xor .u64 (d : Int) (a' : Int) = (x1 : Int) := by rw [u64_xor_nat d a' (by omega) (by omega), hx1]
      obtain ⟨d', hd'⟩ : ∃ z : Nat, z = trn x1 m := ⟨_, rfl⟩
      have hdb : d' < 4294967296 := by rw [hd']; exact trn_lt hx1b _
      obtain ⟨s2, hs2⟩ : ∃ z : Nat, z = c + d' := ⟨_, rfl⟩
      obtain ⟨c', hc'⟩ : ∃ z : Nat, z = s2 % 4294967296 := ⟨_, rfl⟩
      have e5 : IntKind.u64.wrap ((c : Int) + (d' : Int)) = (s2 : Int) := by rw [IntKind.wrap_u64]; omega
      have e6 : ((s2 : Nat) : Int).tmod 4294967296 = (c' : Int) := by rw [Int.tmod_eq_emod_of_nonneg (by omega)]; omega
      have hcb : c' < 4294967296 := by omega
      have e7 : IntKind.u64.wrap (c' : Int) = (c' : Int) := by rw [IntKind.wrap_u64]; omega
      obtain ⟨x2, hx2⟩ : ∃ z : Nat, z = b ^^^ c' := ⟨_, rfl⟩
      have hx2b : x2 < 4294967296 := by rw [hx2]; exact xor32 hb hcb
      have e8 : bits .xor .u64 (b : Int) (c' : Int) = (x2 : Int) := by rw [u64_xor_nat b c' (by omega) (by omega), hx2]
      have e9 : IntKind.i64.wrap ((i : Int) + 1) = ((i + 1 : Nat) : Int) := IntWalk.i64_in _ (by omega)
      have e10 : IntKind.i64.wrap ((i : Int) + 2) = ((2 * (k + 1) : Nat) : Int) := by
        rw [show (i : Int) + 2 = ((2 * (k + 1) : Nat) : Int) by omega]
        exact IntWalk.i64_in _ (by omega)
      have HN : Hid ((⟨a', trn x2 n, c', d'⟩ : Q4) = qk q (k + 1)) := by
        show _ = _
        rw [← qk_next q k m n hmn, ← HP.out]
        unfold qh
        simp only
        rw [← hs1, ← ha', ← hx1, ← hd', ← hs2, ← hc', ← hx2]
      have hki : k + 1 ≤ 2 := by omega
      have HD' : Hid _ := hd'
      have HI : Hid _ := hi
      rw [← hi]
      clear hs1 ha' hx1 hd' hs2 hc' hx2 HP hmn hi ha hb hc hd
      go_wp2_with fail
      refine (turnR_any x1 m hx1b hm32 _ _ rfl rfl _).mono ?_
      rintro e w2 ⟨rfl, rfl⟩
      rw [← HD'.out]
      go_wp2_with fail
      refine (turnR_any x2 n hx2b hn32 _ _ rfl rfl _).mono ?_
      rintro e w2 ⟨rfl, rfl⟩
      go_wp2
      go_round
      case rel => exact ⟨k + 1, ⟨a', trn x2 n, c', d'⟩, hki, by first | rfl | go_num, rfl, rfl, rfl, rfl, HN⟩
      case measure =>
        have := HI.out
        simp [intOf] <;> omega
    · have hke : k = 2 := by omega
      subst hke
      have HP2 : Hid ((⟨a, b, c, d⟩ : Q4) = qr q) := HP
      clear HP
      go_wp2
      refine bodyPost_ret (v := .tuple #[.int .u64 (a : Int), .int .u64 (b : Int), .int .u64 (c : Int), .int .u64 (d : Int)]) (by simp [results, Tryd.results72, go_sem]) rfl ?_
      exact ⟨by rw [← HP2.out], hbw⟩
end Go.Proofs.YtliiofjcghdjoaaDoor

/- What the functions of package words answer, for whatever reads as bytes: contracts, whatever the memory. -/
namespace Go.Proofs.YtliiofjcghdjoaaDoor
set_option linter.unusedSimpArgs false
set_option linter.unusedVariables false
open Go.ChangeShapes Go.WideShapes Go.ChangeAt Go.RowKit

theorem ret_int {k : IntKind} {a b : Int} (h : a = b) : Ending.returned (.int k a) = .returned (.int k b) := by rw [h]

theorem val_int {k : IntKind} {a b : Int} (h : a = b) : Value.int k a = .int k b := by rw [h]

theorem load_any (v : Value) (l : List UInt8) (w : World) (hr : Rd w v l) :
    Calls Tryd.prog 87 #[v] w fun e w' => e = .returned (.int .u64 ((leN (l.take 8) : Nat) : Int)) ∧ w' = w := by
  obtain ⟨a, cap, rfl, h2, h3, h4, h5⟩ := hr
  unfold maxLen at h3
  go_enter Tryd.func87, Tryd.ntmps87
  go_wp2
  all_goals
    go_loop [3, 8] (fun x i => ∃ k : Nat, k ≤ l.length ∧ k ≤ 8 ∧ i = .int .i64 k ∧ x = .int .u64 ((leN (l.take k) : Nat) : Int)) (fun _ i => 8 - (intOf i).toNat)
    case atStart => exact ⟨0, Nat.zero_le _, by omega, rfl, rfl⟩
    case round =>
      obtain ⟨k, hk, hk8, rfl, rfl⟩ := hrel
      by_cases hlt : k < l.length ∧ k < 8
      · obtain ⟨g1, g2⟩ := hlt
        rcases h5 with rfl | ⟨b, off, rfl, hc⟩
        · simp at g1
        have hck := hc k g1
        have hst := load_step l k g1 g2
        have HS : Hid _ := hst
        clear hst hc h4
        go_wp2
        go_round
        case rel => exact ⟨k + 1, by omega, by omega, by go_num, val_int (by simpa [g1] using HS.out)⟩
        case measure => simp [intOf]; omega
      · go_wp2
        go_ret
        refine ⟨ret_int ?_, rfl⟩
        have : k = 8 ∨ k = l.length := by omega
        rcases this with rfl | rfl
        · rfl
        · rw [List.take_of_length_le (Nat.le_refl _), List.take_of_length_le hk8]

theorem info5 : (Tryd.prog.info? 5).map (fun i => (i.zero, i.size, i.bytes)) = some (some (.int .u8 0), 1, 1) := by kernel_rfl

theorem store_k (x : Nat) (n : Int) (k : Nat) (hk : k ≤ 8) (hn : (n < 0 ∧ k = 0) ∨ (0 ≤ n ∧ n ≤ 8 ∧ n = k) ∨ (8 < n ∧ k = 8)) (w : World) :
    Calls Tryd.prog 63 #[.int .u64 x, .int .i64 n] w fun e w' => ∃ v, e = .returned v ∧ New 5 w v ((List.range k).map (stB x)) w' := by
  obtain ⟨i, hi, hz0, hz1, hz2⟩ := info_parts info5
  have HK : Hid ((n < 0 ∧ k = 0) ∨ (0 ≤ n ∧ n ≤ 8 ∧ n = k) ∨ (8 < n ∧ k = 8)) := hn
  have hn' : n < 0 ∨ (0 ≤ n ∧ n ≤ 8) ∨ 8 < n := by omega
  clear hn
  rcases hn' with h1 | ⟨h1, h2⟩ | h1
  all_goals
    go_enter Tryd.func63, Tryd.ntmps63
    go_wp2_with (at_make; refine wpList_make_full _ rfl _ _ 40 rfl w.heap.size 5 i _ 1 Tryd.underlying40 hi hz0 hz1 _ _ _ _ k rfl rfl (by have := HK.out; omega) (by have := HK.out; omega) (by rw [hz2]; omega) (by unfold maxLen; omega) (Nat.le_refl _) ?_)
    intro w1 hown hgr
    have hF := Fill.start (stB x) hown hgr
    clear hown hgr
    go_wp2
    go_loopw [13] (fun i wr => ∃ j : Nat, j ≤ k ∧ i = .int .i64 j ∧ Fill 5 w w.heap.size k (stB x) j wr) (fun i _ => k - (intOf i).toNat)
    case atStart => exact ⟨0, Nat.zero_le _, rfl, hF⟩
    case round =>
      obtain ⟨j, hj, rfl, hFj⟩ := hrel
      by_cases hlt : j < k
      · obtain ⟨hcj, hfj⟩ := hFj.cell hlt
        go_wp2
        go_roundw
        case rel => exact ⟨j + 1, by omega, by go_num, hFj.step (stB_shr x j)⟩
        case measure => simp [intOf]; omega
      · have : j = k := by omega
        subst this
        go_wp2
        go_ret
        exact ⟨_, rfl, hFj.done⟩

set_option maxRecDepth 100000 in
theorem xor_any (va vb : Value) (la lb : List UInt8) (w : World) (ha : Rd w va la) (hb : Rd w vb lb) (hmx : la.length ≤ 140737488355328) :
    Calls Tryd.prog 66 #[va, vb] w fun e w' => ∃ v, e = .returned v ∧ New 5 w v (xorL la lb) w' := by
  obtain ⟨i, hi, hz0, hz1, hz2⟩ := info_parts info5
  obtain ⟨aa, capa, ea, ha2, ha3, ha4, ha5⟩ := id ha
  obtain ⟨ab, capb, eb, hb2, hb3, hb4, hb5⟩ := id hb
  have Ha : Hid (Rd w va la) := ha
  have Hb : Hid (Rd w vb lb) := hb
  clear ha hb ha5 hb5
  subst ea eb
  unfold maxLen at ha3 hb3
  obtain ⟨n, hn⟩ : ∃ n : Nat, n = min la.length lb.length := ⟨_, rfl⟩
  have HN : Hid (n = min la.length lb.length) := hn
  have hcase : (la.length : Int) ≤ lb.length ∨ (lb.length : Int) < la.length := by omega
  clear hn
  go_enter Tryd.func66, Tryd.ntmps66
  go_wp2_with (at_make; go_must (refine wpList_make_full _ rfl _ _ 40 rfl w.heap.size 5 i _ 1 Tryd.underlying40 hi hz0 hz1 _ _ _ _ n rfl rfl (by have := HN.out; omega) (by have := HN.out; omega) (by rw [hz2]; have := HN.out; omega) (by unfold maxLen; have := HN.out; omega) (Nat.le_refl _) ?_))
  all_goals
    intro w1 hown hgr
    have hF := Fill.start (fun i => la.getD i 0 ^^^ lb.getD i 0) hown hgr
    clear hown hgr hcase
    go_wp2
    go_loopw [15] (fun i wr => ∃ j : Nat, j ≤ n ∧ i = .int .i64 j ∧ Fill 5 w w.heap.size n (fun i => la.getD i 0 ^^^ lb.getD i 0) j wr) (fun i _ => n - (intOf i).toNat)
    case atStart => exact ⟨0, Nat.zero_le _, rfl, hF⟩
    case round =>
      obtain ⟨j, hj, rfl, hFj⟩ := hrel
      by_cases hlt : j < n
      · obtain ⟨hcj, hfj⟩ := hFj.cell hlt
        obtain ⟨ba, oa, ca, ea, _, hca, _⟩ := (Rd.kept2 Ha hFj.2).cellAt (i := j) (by have := HN.out; omega)
        obtain ⟨bb, ob, cb, eb, _, hcb, _⟩ := (Rd.kept2 Hb hFj.2).cellAt (i := j) (by have := HN.out; omega)
        simp only [Value.slice.injEq] at ea eb
        obtain ⟨rfl, _, rfl⟩ := ea
        obtain ⟨rfl, _, rfl⟩ := eb
        have g1 : (j : Int) < la.length := by have := HN.out; omega
        have g2 : (j : Int) < lb.length := by have := HN.out; omega
        have hx := byte_xor (la.getD j 0) (lb.getD j 0)
        have HX : Hid _ := hx
        clear hx
        go_wp2
        go_region
        go_wp2
        go_roundw
        case rel => exact ⟨j + 1, by omega, by go_num, (hFj.step (by simpa using HX.out)).drew⟩
        case measure => simp [intOf]; omega
      · have : j = n := by omega
        subst this
        go_wp2
        go_ret
        refine ⟨_, rfl, ?_⟩
        have := hFj.done
        unfold xorL
        rw [← HN.out]
        exact this

theorem below_drewN {B : Nat} {w wr : World} (h : Below B w wr) : ∀ n, Below B w (wr.drewN n)
  | 0 => h
  | n + 1 => (below_drewN h n).drew

theorem equal_short (va vb : Value) (la lb : List UInt8) (w : World) (ha : Rd w va la) (hb : Rd w vb lb) (hne : la.length ≠ lb.length) :
    Calls Tryd.prog 62 #[va, vb] w fun e w' => e = .returned (.bool (decide (la = lb))) ∧ Below w.heap.size w w' := by
  obtain ⟨aa, capa, rfl, ha2, ha3, ha4, ha5⟩ := ha
  obtain ⟨ab, capb, rfl, hb2, hb3, hb4, hb5⟩ := hb
  have h1 : ((la.length : Int) != (lb.length : Int)) = true := by simp; omega
  have h2 : decide (la = lb) = false := by
    simp only [decide_eq_false_iff_not]
    rintro rfl; exact hne rfl
  rw [h2]
  clear h2 ha5 hb5
  go_enter Tryd.func62, Tryd.ntmps62
  go_wp2
  go_ret
  exact ⟨rfl, Below.refl _ _⟩

theorem equal_long (va vb : Value) (la lb : List UInt8) (w : World) (ha : Rd w va la) (hb : Rd w vb lb) (heq : la.length = lb.length) :
    Calls Tryd.prog 62 #[va, vb] w fun e w' => e = .returned (.bool (decide (la = lb))) ∧ Below w.heap.size w w' := by
  obtain ⟨aa, capa, ea, ha2, ha3, ha4, ha5⟩ := id ha
  obtain ⟨ab, capb, eb, hb2, hb3, hb4, hb5⟩ := id hb
  have Ha : Hid (Rd w va la) := ha
  have Hb : Hid (Rd w vb lb) := hb
  clear ha hb ha5 hb5
  subst ea eb
  unfold maxLen at ha3 hb3
  have h1 : ((la.length : Int) != (lb.length : Int)) = false := by simp; omega
  have HE : Hid (la.length = lb.length) := heq
  clear heq
  go_enter Tryd.func62, Tryd.ntmps62
  go_wp2
  clear h1
  go_loopw [5, 14] (fun x i wr => ∃ (k : Nat) (s : UInt8), k ≤ la.length ∧ i = .int .i64 k ∧ x = .int .u8 (s.toNat : Int) ∧ Hid (s = orL ((xorL la lb).take k)) ∧ Below w.heap.size w wr) (fun _ i _ => la.length - (intOf i).toNat)
  case atStart => exact ⟨0, 0, Nat.zero_le _, rfl, rfl, rfl, Below.refl _ _⟩
  case round =>
    obtain ⟨k, s, hk, rfl, rfl, HS, hB⟩ := hrel
    by_cases hlt : k < la.length
    · obtain ⟨ba, oa, ca, ea, _, hca, _⟩ := (Rd.kept2 Ha hB).cellAt (i := k) hlt
      obtain ⟨bb, ob, cb, eb, _, hcb, _⟩ := (Rd.kept2 Hb hB).cellAt (i := k) (by have := HE.out; omega)
      simp only [Value.slice.injEq] at ea eb
      obtain ⟨rfl, _, rfl⟩ := ea
      obtain ⟨rfl, _, rfl⟩ := eb
      have hX := xorL_take_succ la lb k hlt (by have := HE.out; omega)
      have g1 : (k : Int) < la.length := by omega
      have g2 : (k : Int) < lb.length := by have := HE.out; omega
      generalize la.getD k 0 = x at hX hca
      generalize lb.getD k 0 = y at hX hcb
      have HX : Hid _ := hX
      have HO : Hid _ := byte_xor x y
      have HP : Hid _ := byte_or s (x ^^^ y)
      clear hX
      go_wp2
      go_quiet (fail)
      go_wp2
      go_roundw
      case rel => exact ⟨k + 1, s ||| (x ^^^ y), by omega, by go_num, val_int (by rw [HO.out]; exact HP.out), by rw [HS.out, HX.out, orL_snoc]; rfl, below_drewN hB _⟩
      case measure => simp [intOf]; omega
    · have HZ : Hid ((((s.toNat : Nat) : Int) == 0) = decide (s = 0)) := nat0_beq s
      have HF : Hid (s = orL (xorL la lb)) := by
        have : (xorL la lb).take k = xorL la lb := List.take_of_length_le (by rw [xorL_length]; have := HE.out; omega)
        rw [this] at HS; exact HS
      go_wp2
      go_ret
      refine ⟨congrArg (fun b => Ending.returned (.bool b)) (HZ.out.trans ?_), hB⟩
      rw [HF.out]
      exact decide_eq_decide.2 (orL_xorL la lb HE.out)

theorem equal_any (va vb : Value) (la lb : List UInt8) (w : World) (ha : Rd w va la) (hb : Rd w vb lb) :
    Calls Tryd.prog 62 #[va, vb] w fun e w' => e = .returned (.bool (decide (la = lb))) ∧ Below w.heap.size w w' := by
  by_cases h : la.length = lb.length
  · exact equal_long va vb la lb w ha hb h
  · exact equal_short va vb la lb w ha hb h

theorem join_any (v : Value) (vs : List Value) (ls : List (List UInt8)) (w : World) (h : RdL w v vs ls) (ht : totL ls ≤ 1000000000) :
    Calls Tryd.prog 47 #[v] w fun e w' => ∃ r, e = .returned r ∧ New 5 w r ls.flatten w' := by
  obtain ⟨i, hi, hz0, hz1, hz2⟩ := info_parts info5
  have H : Hid (RdL w v vs ls) := h
  obtain ⟨⟨a, cap, ev, h2, h3, h5⟩, h6, h7⟩ := id h
  clear h h5 h7
  subst ev
  unfold maxLen at h3
  have HL : Hid (vs.length = ls.length) := h6
  clear h6
  go_enter Tryd.func47, Tryd.ntmps47
  go_wp2
  go_loop [3, 9] (fun x i => ∃ (k t : Nat), k ≤ vs.length ∧ t ≤ 1000000000 ∧ i = .int .i64 k ∧ x = .int .i64 (t : Int) ∧ Hid (t = totL (ls.take k))) (fun _ i => vs.length - (intOf i).toNat)
  case atStart => exact ⟨0, 0, Nat.zero_le _, by omega, rfl, rfl, rfl⟩
  case round =>
    obtain ⟨k, t, hk, htb, rfl, rfl, HT⟩ := hrel
    by_cases hlt : k < vs.length
    · obtain ⟨b, off, cap', a', cap2, ev, _, hc, hr⟩ := H.out.cellAt (i := k) hlt
      simp only [Value.slice.injEq] at ev
      obtain ⟨rfl, _, rfl⟩ := ev
      have HS : Hid _ := totL_take_succ ls k (by have := HL.out; omega)
      have hle := totL_take_le ls (k + 1)
      rw [HS.out] at hle
      have hsum : t + (ls.getD k []).length ≤ 1000000000 := by rw [HT.out]; omega
      generalize ls.getD k [] = lk at hc hr HS hsum
      clear hle hr
      go_wp2
      go_round
      case rel => exact ⟨k + 1, t + lk.length, by omega, by omega, by go_num, by go_num, by rw [HT.out]; exact HS.out.symm⟩
      case measure => simp [intOf]; omega
    · have HF : Hid (t = totL ls) := by
        have : ls.take k = ls := List.take_of_length_le (by have := HL.out; omega)
        rw [this] at HT; exact HT
      go_wp2_with (at_make; go_must (refine wpList_make_own _ rfl _ _ 40 rfl w.heap.size 5 i _ 1 Tryd.underlying40 hi hz0 hz1 _ _ _ t rfl rfl rfl (by rw [hz2]; omega) (by unfold maxLen; omega) (Nat.le_refl _) ?_))
      intro w1 hown hgr
      have hN1 : New 5 w _ [] w1 := ⟨hown, (Below.refl _ _).grown hgr (Nat.le_refl _) (by simp)⟩
      clear hown hgr
      go_wp2
      go_loopw [5, 24] (fun r i wr => ∃ (m : Nat), m ≤ vs.length ∧ i = .int .i64 m ∧ New 5 w r (ls.take m).flatten wr) (fun _ i _ => vs.length - (intOf i).toNat)
      case atStart => exact ⟨0, Nat.zero_le _, rfl, hN1⟩
      case round =>
        obtain ⟨m, hm, rfl, hN⟩ := hrel
        by_cases hlm : m < vs.length
        · obtain ⟨b, off, cap', a', cap2, ev, _, hc, hr⟩ := (H.out.kept hN.2).cellAt (i := m) hlm
          simp only [Value.slice.injEq] at ev
          obtain ⟨rfl, _, rfl⟩ := ev
          have HS : Hid _ := flat_take_succ ls m (by have := HL.out; omega)
          have hle := totL_take_le ls (m + 1)
          rw [totL_take_succ ls m (by have := HL.out; omega)] at hle
          have hsum : (ls.take m).flatten.length + (ls.getD m []).length ≤ 1000000000 := by unfold totL at hle ht; omega
          generalize ls.getD m [] = lk at hc hr HS hsum
          clear hle
          have HSum : Hid ((ls.take m).flatten.length + lk.length ≤ 1000000000) := hsum
          clear hsum
          go_wp2_with (at_builtin; go_must (refine wpList_append_new (w := w) rfl _ _ 40 rfl 5 Tryd.underlying40 info5 u5 _ rfl hN _ lk rfl hr (by have := HSum.out; omega) ?_))
          intro v2 w2 hN2 _
          go_wp2
          go_roundw
          case rel => exact ⟨m + 1, by omega, by go_num, by rw [HS.out]; exact hN2⟩
          case measure => simp [intOf]; omega
        · have : ls.take m = ls := List.take_of_length_le (by have := HL.out; omega)
          rw [this] at hN
          clear this
          go_wp2
          go_ret
          exact ⟨_, rfl, hN⟩

theorem sel0 (x y : UInt8) : x ^^^ (0 &&& (x ^^^ y)) = x := by simp

theorem sel1 (x y : UInt8) : x ^^^ (255 &&& (x ^^^ y)) = y := by
  have h : (255 : UInt8) &&& (x ^^^ y) = x ^^^ y := by
    rw [show (255 : UInt8) = -1 from rfl]; simp
  rw [h, ← UInt8.xor_assoc]; simp

theorem conv_any {w : World} {v : Value} {l : List UInt8} (h : Rd w v l) : (convert 40 9 v).run Tryd.prog w = .ok (.string ⟨l.toArray⟩) w :=
  h.conv Tryd.underlying40 Tryd.underlying5 Tryd.underlying9

theorem equal_bool (va vb : Value) (la lb : List UInt8) (b : Bool) (hab : decide (la = lb) = b) (w : World) (ha : Rd w va la) (hb : Rd w vb lb) :
    Calls Tryd.prog 62 #[va, vb] w fun e w' => e = .returned (.bool b) ∧ Below w.heap.size w w' := by
  subst hab; exact equal_any va vb la lb w ha hb

end Go.Proofs.YtliiofjcghdjoaaDoor

/- What the turning of a word, a quarter round and the look at two lengths answer: contracts of package chacha, first part. -/
namespace Go.Proofs.YtliiofjcghdjoaaDoor
open Go.ChangeShapes Go.WideShapes Go.ChangeAt Go.RowKit
set_option linter.unusedSimpArgs false
set_option linter.unusedVariables false

theorem or_turn32 (x n : Nat) (hx : x < 4294967296) (hn : n ≤ 32) : (x * 2 ^ n % 4294967296) ||| (x / 2 ^ (32 - n)) = trn x n := by
  have h32 : (4294967296 : Nat) = 2 ^ n * 2 ^ (32 - n) := by rw [← Nat.pow_add, show n + (32 - n) = 32 by omega]
  have hB : x / 2 ^ (32 - n) < 2 ^ n := by
    refine Nat.div_lt_of_lt_mul ?_
    rw [Nat.mul_comm, ← h32]
    exact hx
  have hd : x * 2 ^ n / 4294967296 = x / 2 ^ (32 - n) := by
    rw [h32, Nat.mul_comm x, Nat.mul_div_mul_left _ _ (Nat.pow_pos (by decide))]
  rw [trn_eq hx n hn, hd, h32, Nat.mul_comm x, Nat.mul_mod_mul_left, Nat.two_pow_add_eq_or_of_lt hB]
theorem and31 (n : Nat) (hn : n < 32) : bits .and .u64 (n : Int) 31 = (n : Int) := by
  have h := u64_and_nat n 31 (by omega) (by decide)
  rw [show ((31 : Int)) = ((31 : Nat) : Int) from rfl, h, show (31 : Nat) = 2 ^ 5 - 1 from rfl, Nat.and_two_pow_sub_one_eq_mod, Nat.mod_eq_of_lt (by omega)]

set_option maxHeartbeats 400000 in
theorem rot32_any (x n : Nat) (X B : Int) (hX : X = x) (hB : B = n) (hx : x < 4294967296) (hn : n < 32) (w : World) :
    Calls Tryd.prog 91 #[.int .u32 X, .int .i64 B] w fun e w' => e = .returned (.int .u32 ((trn x n : Nat) : Int)) ∧ w' = w := by
  subst hX hB
  have ha := and31 n hn
  have HN : Hid (((32 : Int) - (n : Int)).toNat = 32 - n) := by show Int.toNat _ = _; omega
  have HE : Hid _ := or_turn32 x n hx (by omega)
  go_enter Tryd.func91, Tryd.ntmps91
  go_wp2
  go_ret
  refine ⟨retI ?_, rfl⟩
  have e1 : ((x : Int) * 2 ^ n) = ((x * 2 ^ n : Nat) : Int) := by simp
  have e2 : ((x : Int) / 2 ^ (32 - n)) = ((x / 2 ^ (32 - n) : Nat) : Int) := by simp
  rw [e1, e2, show ((x * 2 ^ n : Nat) : Int) % 4294967296 = ((x * 2 ^ n % 4294967296 : Nat) : Int) by omega, u32_or_nat _ _ (Nat.mod_lt _ (by decide)) (Nat.lt_of_le_of_lt (Nat.div_le_self _ _) hx), HE.out]

/-- A word's sum and difference, as the machine reckons them. -/
theorem half07_facts (p : Q4) (h : p.ok) (m n : Nat) : ∃ a x d c y b : Nat, IntKind.u32.wrap ((p.a : Int) + (p.b : Int)) = (a : Int) ∧ bits .xor .u32 (p.d : Int) (a : Int) = (x : Int) ∧ x < 4294967296 ∧ d = trn x m ∧
    IntKind.u32.wrap ((p.c : Int) + (d : Int)) = (c : Int) ∧ bits .xor .u32 (p.b : Int) (c : Int) = (y : Int) ∧ y < 4294967296 ∧ b = trn y n ∧ qh p m n = ⟨a, b, c, d⟩ := by
  obtain ⟨h1, h2, h3, h4⟩ := h
  refine ⟨(p.a + p.b) % 4294967296, p.d ^^^ ((p.a + p.b) % 4294967296), trn (p.d ^^^ ((p.a + p.b) % 4294967296)) m, (p.c + trn (p.d ^^^ ((p.a + p.b) % 4294967296)) m) % 4294967296, p.b ^^^ ((p.c + trn (p.d ^^^ ((p.a + p.b) % 4294967296)) m) % 4294967296), _, ?_, ?_, ?_, rfl, ?_, ?_, ?_, rfl, rfl⟩
  · rw [IntKind.wrap_u32']; omega
  · exact u32_xor_nat _ _ h4 (mod32 _)
  · exact xor32 h4 (mod32 _)
  · rw [IntKind.wrap_u32']; omega
  · exact u32_xor_nat _ _ h2 (mod32 _)
  · exact xor32 h2 (mod32 _)

set_option maxRecDepth 100000 in
set_option maxHeartbeats 2000000 in
theorem quarter_any (q : Q4) (hq : q.ok) (A B C D : Int) (hA : A = (q.a : Int)) (hB : B = (q.b : Int)) (hC : C = (q.c : Int)) (hD : D = (q.d : Int)) (w : World) :
    Calls Tryd.prog 88 #[.int .u32 A, .int .u32 B, .int .u32 C, .int .u32 D] w fun e w' => e = .returned (.tuple #[.int .u32 ((qr q).a : Int), .int .u32 ((qr q).b : Int), .int .u32 ((qr q).c : Int), .int .u32 ((qr q).d : Int)]) ∧ w' = w := by
  subst hA hB hC hD
  obtain ⟨a1, x1, d1, c1, y1, b1, e1, e2, hx1, hd1, e3, e4, hy1, hb1, HH⟩ := half07_facts q hq 16 12
  have hok := qh_ok hq 16 12
  rw [HH] at hok
  obtain ⟨a2, x2, d2, c2, y2, b2, f1, f2, hx2, hd2, f3, f4, hy2, hb2, HH2⟩ := half07_facts _ hok 8 7
  simp only at f1 f2 f3 f4
  have HQ : Hid (qr q = ⟨a2, b2, c2, d2⟩) := by
    show _ = _
    unfold qr
    rw [HH, HH2]
  have HD1 : Hid _ := hd1
  have HB1 : Hid _ := hb1
  have HD2 : Hid _ := hd2
  have HB2 : Hid _ := hb2
  clear hd1 hb1 hd2 hb2 HH HH2 hok hq
  go_enter Tryd.func88, Tryd.ntmps88
  go_wp2_with fail
  refine (rot32_any x1 16 _ _ rfl rfl hx1 (by decide) _).mono ?_
  rintro e w2 ⟨rfl, rfl⟩
  rw [← HD1.out]
  go_wp2_with fail
  refine (rot32_any y1 12 _ _ rfl rfl hy1 (by decide) _).mono ?_
  rintro e w2 ⟨rfl, rfl⟩
  rw [← HB1.out]
  go_wp2_with fail
  refine (rot32_any x2 8 _ _ rfl rfl hx2 (by decide) _).mono ?_
  rintro e w2 ⟨rfl, rfl⟩
  rw [← HD2.out]
  go_wp2_with fail
  refine (rot32_any y2 7 _ _ rfl rfl hy2 (by decide) _).mono ?_
  rintro e w2 ⟨rfl, rfl⟩
  rw [← HB2.out]
  go_wp2
  refine bodyPost_ret (v := .tuple #[.int .u32 (a2 : Int), .int .u32 (b2 : Int), .int .u32 (c2 : Int), .int .u32 (d2 : Int)]) (by simp [results, Tryd.results88, go_sem]) rfl ?_
  exact ⟨by rw [HQ.out], rfl⟩

set_option maxHeartbeats 400000 in
theorem fit_any (vk vn : Value) (k n : List UInt8) (w : World) (hk : Rd w vk k) (hn : Rd w vn n) :
    Calls Tryd.prog 64 #[vk, vn] w fun e w' => e = .returned (.bool (decide (k.length = 32 ∧ n.length = 12))) ∧ w' = w := by
  obtain ⟨ak, ck, rfl, hck, -, -⟩ := hk
  obtain ⟨an, cn, rfl, hcn, -, -⟩ := hn
  by_cases h : k.length = 32
  · have HE : Hid (((n.length : Int) == 12) = decide (k.length = 32 ∧ n.length = 12)) := by
      show _ = _
      by_cases h2 : n.length = 12 <;> simp [h, h2] <;> omega
    have hd : ((k.length : Int) == 32) = true := by simp [h]
    go_enter Tryd.func64, Tryd.ntmps64
    go_wp2
    go_ret
    exact ⟨congrArg (fun b => Ending.returned (.bool b)) HE.out, rfl⟩
  · have hd : ((k.length : Int) == 32) = false := by simp; omega
    have HE : Hid (false = decide (k.length = 32 ∧ n.length = 12)) := by
      show _ = _
      simp [h]
    go_enter Tryd.func64, Tryd.ntmps64
    go_wp2
    go_ret
    exact ⟨congrArg (fun b => Ending.returned (.bool b)) HE.out, rfl⟩
end Go.Proofs.YtliiofjcghdjoaaDoor

/- What the document's own Load and Store answer, for whatever reads as bytes: contracts of the reference of layer 1. -/
namespace Go.Proofs.YtliiofjcghdjoaaDoor
open Go.ChangeShapes Go.WideShapes Go.ChangeAt Go.RowKit
set_option linter.unusedSimpArgs false
set_option linter.unusedVariables false

set_option maxHeartbeats 400000 in
theorem refload_any (v : Value) (l : List UInt8) (w : World) (hr : Rd w v l) :
    Calls Tryd.prog 71 #[v] w fun e w' => e = .returned (.int .u64 ((leN (l.take 8) : Nat) : Int)) ∧ w' = w := by
  obtain ⟨a, cap, rfl, h2, h3, h4, h5⟩ := hr
  unfold maxLen at h3
  go_enter Tryd.func71, Tryd.ntmps71
  go_wp2
  all_goals
    go_loop [3, 5] (fun x i => ∃ k : Nat, k ≤ l.length ∧ k ≤ 8 ∧ i = .int .i64 ((k : Int) - 1) ∧ x = .int .u64 ((leN ((l.take 8).drop k) : Nat) : Int)) (fun _ i => (intOf i + 1).toNat)
    case atStart => 
      first
      | exact ⟨8, by omega, by omega, rfl, valI (by rw [List.drop_eq_nil_of_le (by simp; omega)]; rfl)⟩
      | exact ⟨l.length, by omega, by omega, rfl, valI (by rw [List.drop_eq_nil_of_le (by simp; omega)]; rfl)⟩
    case round =>
      obtain ⟨k, hk, hk8, rfl, rfl⟩ := hrel
      by_cases hlt : 0 < k
      · obtain ⟨j, rfl⟩ : ∃ j, k = j + 1 := ⟨k - 1, by omega⟩
        rcases h5 with rfl | ⟨b, off, rfl, hc⟩
        · simp at hk
        have hck := hc j (by omega)
        have HS : Hid _ := refload_step l j (by omega) (by omega)
        clear hc h4
        go_wp2
        go_round
        case rel => exact ⟨j, by omega, by omega, by go_num, valI (by simpa using HS.out)⟩
        case measure => simp [intOf]
      · go_wp2
        go_ret
        refine ⟨retI ?_, rfl⟩
        have : k = 0 := by omega
        subst this
        rfl

theorem infoU8 : (Tryd.prog.info? 5).map (fun i => (i.zero, i.size, i.bytes)) = some (some (.int .u8 0), 1, 1) := by kernel_rfl

set_option maxHeartbeats 400000 in
theorem refstore_k (x : Nat) (hx : x < 18446744073709551616) (n : Int) (k : Nat) (hk : k ≤ 8) (hn : (n < 0 ∧ k = 0) ∨ (0 ≤ n ∧ n ≤ 8 ∧ n = k) ∨ (8 < n ∧ k = 8)) (w : World) :
    Calls Tryd.prog 53 #[.int .u64 x, .int .i64 n] w fun e w' => ∃ v, e = .returned v ∧ New 5 w v ((List.range k).map (stB x)) w' := by
  obtain ⟨i, hi, hz0, hz1, hz2⟩ := info_parts infoU8
  have HK : Hid ((n < 0 ∧ k = 0) ∨ (0 ≤ n ∧ n ≤ 8 ∧ n = k) ∨ (8 < n ∧ k = 8)) := hn
  clear hn
  go_enter Tryd.func53, Tryd.ntmps53
  go_wp2
  go_loopw [0, 5, 6] (fun xv v i wr => ∃ j y : Nat, j ≤ k ∧ Hid (y = x / 256 ^ j) ∧ xv = .int .u64 (y : Int) ∧ i = .int .i64 j ∧ New 5 w v ((List.range j).map (stB x)) wr) (fun _ _ i _ => k - (intOf i).toNat)
  case atStart => exact ⟨0, x, Nat.zero_le _, by simp [Hid], rfl, rfl, New.start w⟩
  case round =>
    obtain ⟨j, y, hj, Hy, rfl, rfl, hN⟩ := hrel
    have hy : (0 : Int) ≤ (y : Int) := by omega
    have hy2 : (y : Int) < 18446744073709551616 := by have := Hy.out; have := Nat.div_le_self x (256 ^ j); omega
    by_cases hlt : j < k
    · have h1 : (j : Int) < n := by have := HK.out; omega
      have h2 : (j : Int) < 8 := by omega
      go_wp2_with (at_builtin; go_must (refine wpList_append_new (w := w) rfl _ _ 40 rfl 5 Tryd.underlying40 infoU8 _ _ rfl (hN.alloc _) _ _ rfl (Rd.lit1 (stB x j) (by rw [← stB_mod, ← Hy.out])) (by simp; omega) ?_))
      intro v' w2 hN2 _
      go_wp2
      go_roundw
      case rel => exact ⟨j + 1, y / 256, by omega, by rw [Hy.out]; exact div_succ x j, by go_num, by go_num, by rw [List.range_succ, List.map_append]; exact hN2⟩
      case measure => simp [intOf]; omega
    · have hjk : j = k := by omega
      subst hjk
      have hno : ¬ (j : Int) < n ∨ ((j : Int) < n ∧ ¬ (j : Int) < 8) := by have := HK.out; omega
      rcases hno with h1 | ⟨h1, h2⟩
      all_goals
        go_wp2
        go_ret
        exact ⟨_, rfl, hN⟩
end Go.Proofs.YtliiofjcghdjoaaDoor

/- What the document's own block is: a contract of the reference of layer 7. -/
namespace Go.Proofs.YtliiofjcghdjoaaDoor
open Go.ChangeShapes Go.WideShapes Go.ChangeAt Go.RowKit
set_option linter.unusedSimpArgs false
set_option linter.unusedVariables false

theorem cellK0 {w W : World} {p : Addr} {v : Value} (h : w.cell? p = some v) (hb : Below w.heap.size w W) : W.cell? p = some v := by
  rw [hb.cell (World.block_lt_of_cell? _ _ h)]
  exact h
theorem NewI.place {k : IntKind} {e : TypeId} {w wr : World} {g n cap : Nat} {l : List Int} (h : NewI k e w (.slice (some ⟨g, 0, none⟩) n cap) l wr) {j : Nat} (hj : j < l.length) :
    n = l.length ∧ w.heap.size ≤ g ∧ wr.cell? ⟨g, j, none⟩ = some (.int k (l.getD j 0)) ∧ wr.frozen? ⟨g, j, none⟩ = false ∧ ∀ x : Int, NewI k e w (.slice (some ⟨g, 0, none⟩) n cap) (l.set j x) (wr.setCell ⟨g, j, none⟩ (.int k x)) := by
  obtain ⟨g', c', ev, h1, -, h2, h3, h4⟩ := h.at hj
  simp only [Value.slice.injEq, Option.some.injEq, Addr.mk.injEq, and_true, true_and] at ev
  obtain ⟨rfl, rfl, rfl⟩ := ev
  exact ⟨rfl, h1, h2, h3, h4⟩
/-- A word is stored into a row of the call's own. -/
theorem wp_store_word {w wr : World} {g n cap j : Nat} {l : List Int} {op : Oper} {a : Act} {K : Act → World → Prop} {Q : Exit → Act → World → Prop} (x y : Operand) (ho : op.op = .store 22 x y) (hx : a.eval x = .pointer (some ⟨g, j, none⟩)) (X : Int) (hy : a.eval y = .int .u64 X)
    (hN : NewI .u64 22 w (.slice (some ⟨g, 0, none⟩) n cap) l wr) (hj : j < l.length)
    (h : ∀ w', NewI .u64 22 w (.slice (some ⟨g, 0, none⟩) n cap) (l.set j X) w' → K (a.put op.dst undef) w') : op.wp Tryd.prog a wr K Q := by
  obtain ⟨-, -, hc, hf, hs⟩ := hN.place hj
  have h2 := h _ (hs X)
  unfold Oper.wp execOp
  simp only [ho, hx, hy]
  go_simp
  exact h2
theorem lit1I {k : IntKind} {w : World} {e : TypeId} (x : Int) : RdI k (w.alloc (.cells #[.int k x] e)) (.slice (some ⟨w.heap.size, 0, none⟩) 1 1) [x] :=
  (NewI.lit (k := k) (e := e) (w := w) [x] rfl rfl rfl (by simp [maxLen])).rd
theorem col_facts (k : Nat) (h : k < 4) : ∃ k4 k8 k12 : Nat, k4 = k + 4 ∧ k8 = k + 8 ∧ k12 = k + 12 ∧ IntKind.i64.wrap ((k : Int) + 4) = (k4 : Int) ∧ IntKind.i64.wrap ((k : Int) + 8) = (k8 : Int) ∧ IntKind.i64.wrap ((k : Int) + 12) = (k12 : Int) ∧
    k < 16 ∧ k4 < 16 ∧ k8 < 16 ∧ k12 < 16 ∧ (k : Int) < 16 ∧ (k4 : Int) < 16 ∧ (k8 : Int) < 16 ∧ (k12 : Int) < 16 := by
  refine ⟨k + 4, k + 8, k + 12, rfl, rfl, rfl, ?_, ?_, ?_, by omega, by omega, by omega, by omega, by omega, by omega, by omega, by omega⟩
  all_goals exact IntWalk.i64_in _ (by omega)
theorem dia_facts (k : Nat) (h : k < 4) : ∃ r4 r8 r12 k4 k8 k12 : Nat, k4 = 4 + (k + 1) % 4 ∧ k8 = 8 + (k + 2) % 4 ∧ k12 = 12 + (k + 3) % 4 ∧
    IntKind.i64.wrap ((k : Int) + 1) = (k : Int) + 1 ∧ IntKind.i64.wrap ((k : Int) + 2) = (k : Int) + 2 ∧ IntKind.i64.wrap ((k : Int) + 3) = (k : Int) + 3 ∧
    ((k : Int) + 1).tmod 4 = (r4 : Int) ∧ ((k : Int) + 2).tmod 4 = (r8 : Int) ∧ ((k : Int) + 3).tmod 4 = (r12 : Int) ∧ IntKind.i64.wrap (r4 : Int) = (r4 : Int) ∧ IntKind.i64.wrap (r8 : Int) = (r8 : Int) ∧ IntKind.i64.wrap (r12 : Int) = (r12 : Int) ∧
    IntKind.i64.wrap (4 + (r4 : Int)) = (k4 : Int) ∧ IntKind.i64.wrap (8 + (r8 : Int)) = (k8 : Int) ∧ IntKind.i64.wrap (12 + (r12 : Int)) = (k12 : Int) ∧
    k < 16 ∧ k4 < 16 ∧ k8 < 16 ∧ k12 < 16 ∧ (k : Int) < 16 ∧ (k4 : Int) < 16 ∧ (k8 : Int) < 16 ∧ (k12 : Int) < 16 := by
  have h4 : k = 0 ∨ k = 1 ∨ k = 2 ∨ k = 3 := by omega
  rcases h4 with rfl | rfl | rfl | rfl
  · exact ⟨1, 2, 3, 5, 10, 15, by decide⟩
  · exact ⟨2, 3, 0, 6, 11, 12, by decide⟩
  · exact ⟨3, 0, 1, 7, 8, 13, by decide⟩
  · exact ⟨0, 1, 2, 4, 9, 14, by decide⟩
theorem infoU64c : (Tryd.prog.info? 22).map (fun i => (i.zero, i.size, i.bytes)) = some (some (.int .u64 0), 1, 8) := by kernel_rfl
/-- The head of a block's words. -/
def kst7 : List Nat := [1634760805, 857760878, 2036477234, 1797285236]
/-- Words behind others. -/
def pW (pre : List Nat) (b : List UInt8) (i : Nat) : List Nat := pre ++ (List.range i).map (w4 b)
theorem pW_zero (pre : List Nat) (b : List UInt8) : pW pre b 0 = pre := by simp [pW]
theorem pW_length (pre : List Nat) (b : List UInt8) (i : Nat) : (pW pre b i).length = pre.length + i := by simp [pW]
theorem pW_next (pre : List Nat) (b : List UInt8) (i : Nat) : nI (pW pre b i) ++ [((w4 b i : Nat) : Int)] = nI (pW pre b (i + 1)) := by
  unfold pW
  rw [List.range_succ, List.map_append, ← List.append_assoc, ← nI_append (pre ++ (List.range i).map (w4 b))]
  rfl
theorem w4_load (b : List UInt8) (i : Nat) : leN (((b.drop (4 * i)).take 4).take 8) = w4 b i := by
  rw [List.take_take]
  rfl

set_option maxRecDepth 100000 in
set_option maxHeartbeats 2000000 in
theorem blockR_arg (vk vn : Value) (k n : List UInt8) (C : Int) (w : World) (hk : Rd w vk k) (hn : Rd w vn n) (h : ¬ (k.length = 32 ∧ n.length = 12)) :
    Calls Tryd.prog 58 #[vk, .int .u64 C, vn] w fun e w' => e = .returned (.slice none 0 0) ∧ w' = w := by
  obtain ⟨ak, ck, rfl, -, hmk, -, -⟩ := id hk
  obtain ⟨an, cn, rfl, -, hmn, -, -⟩ := id hn
  unfold maxLen at hmk hmn
  by_cases h1 : k.length = 32
  case' pos =>
    have d1 : (((k.length : Nat) : Int) != 32) = false := by rw [h1]; rfl
    have d2 : (((n.length : Nat) : Int) != 12) = true := by
      simp only [bne_iff_ne, ne_eq]
      omega
  case' neg =>
    have d1 : (((k.length : Nat) : Int) != 32) = true := by
      simp only [bne_iff_ne, ne_eq]
      omega
  all_goals
    have H : Hid _ := h
    clear h h1
    go_enter Tryd.func58, Tryd.ntmps58
    go_wp2
    go_ret
    exact ⟨rfl, rfl⟩

set_option maxRecDepth 100000 in
set_option maxHeartbeats 8000000 in
theorem blockR_any (vk vn : Value) (k n : List UInt8) (c : Nat) (C : Int) (hC : C = (c : Int)) (hc64 : c < 18446744073709551616) (w : World) (hk : Rd w vk k) (hn : Rd w vn n) (hk32 : k.length = 32) (hn12 : n.length = 12) :
    Calls Tryd.prog 58 #[vk, .int .u64 C, vn] w fun e w' => ∃ r, e = .returned r ∧ New 5 w r (bkL k c n) w' := by
  subst hC
  obtain ⟨bk, ok, ck, rfl, hck, -, -⟩ := hk.cellAt (i := 0) (by omega)
  obtain ⟨bn, on, cn, rfl, hcn, -, -⟩ := hn.cellAt (i := 0) (by omega)
  obtain ⟨a', c', ev, -, hmk, -, -⟩ := id hk
  simp only [Value.slice.injEq] at ev
  obtain ⟨-, -, rfl⟩ := ev
  obtain ⟨a'', c'', ev, -, hmn, -, -⟩ := id hn
  simp only [Value.slice.injEq] at ev
  obtain ⟨-, -, rfl⟩ := ev
  unfold maxLen at hmk hmn
  rw [hk32] at hk hck ⊢
  rw [hn12] at hn hcn ⊢
  have HK : Hid (Rd w (.slice (some ⟨bk, ok, none⟩) 32 ck) k) := hk
  have HN : Hid (Rd w (.slice (some ⟨bn, on, none⟩) 12 cn) n) := hn
  clear hk hn hk32 hn12
  have hckI : (32 : Int) ≤ (ck : Int) := by omega
  have hcnI : (12 : Int) ≤ (cn : Int) := by omega
  obtain ⟨cm, hcm⟩ : ∃ m : Nat, m = c % 4294967296 := ⟨_, rfl⟩
  have y1 : ((c : Nat) : Int).tmod 4294967296 = (cm : Int) := by rw [Int.tmod_eq_emod_of_nonneg (by omega)]; omega
  have hcml : cm < 4294967296 := by omega
  have y2 : IntKind.u64.wrap (cm : Int) = (cm : Int) := by rw [IntKind.wrap_u64]; omega
  have HCM : Hid _ := hcm
  clear hcm
  have HW : Hid (W16 (bkW k c n)) := bkW_ok k c n
  have HWE : Hid (bkW k c n = pW (pW kst7 k 8 ++ [cm]) n 3) := by show _ = _; rw [HCM.out]; rfl
  have HPL : Hid (kst7.length = 4) := by show _ = _; rfl
  go_enter Tryd.func58, Tryd.ntmps58
  have hL : NewI .u64 22 w (.slice (some ⟨w.heap.size, 0, none⟩) 4 4) (nI (pW kst7 k 0)) (w.alloc (.cells #[.int .u64 1634760805, .int .u64 857760878, .int .u64 2036477234, .int .u64 1797285236] 22)) := NewI.lit (nI kst7) rfl rfl rfl (by decide)
  go_wp2
  generalize w.alloc (.cells #[.int .u64 1634760805, .int .u64 857760878, .int .u64 2036477234, .int .u64 1797285236] 22) = w1 at hL ⊢
  go_loopw [7, 8] (fun v iv wx => ∃ i : Nat, i ≤ 8 ∧ iv = .int .i64 (i : Int) ∧ NewI .u64 22 w v (nI (pW kst7 k i)) wx) (fun _ iv _ => 8 - (intOf iv).toNat)
  case atStart => exact ⟨0, by omega, rfl, hL⟩
  case round =>
    obtain ⟨i, hi, rfl, hN⟩ := hrel
    clear hL
    by_cases hlt : i < 8
    · have hd : decide ((i : Int) < 8) = true := decide_eq_true (by omega)
      have hiI : (i : Int) < 8 := by omega
      obtain ⟨m, hm⟩ : ∃ m : Nat, m = 4 * i := ⟨_, rfl⟩
      have hsub := (Rd.kept HK.out hN.2).sub (4 * i) (4 * i + 4) (by omega) (by omega)
      have hld := refload_any _ _ _ hsub
      rw [Nat.add_sub_cancel_left, w4_load, ← hm] at hld
      have x1 : IntKind.i64.wrap (4 * (i : Int)) = (m : Int) := by rw [show 4 * (i : Int) = (m : Int) by omega]; exact IntWalk.i64_in _ (by omega)
      have x2 : IntKind.i64.wrap ((m : Int) + 4) = ((m + 4 : Nat) : Int) := IntWalk.i64_in _ (by omega)
      have hm1 : (m : Int) + 4 ≤ 32 := by omega
      have hm2 : m + 4 ≤ 32 := by omega
      have hm3 : m + 4 ≤ ck := by omega
      have hm4 : (m : Int) + 4 ≤ (ck : Int) := by omega
      have HLD : Hid (Calls Tryd.prog 71 #[.slice (some ⟨bk, ok + m, none⟩) 4 (ck - m)] wr fun e w' => e = .returned (.int .u64 ((w4 k i : Nat) : Int)) ∧ w' = wr) := hld
      have HNx : Hid _ := pW_next kst7 k i
      have HLn : Hid ((nI (pW kst7 k i)).length ≤ 100) := by
        show _ ≤ _
        rw [nI_length, pW_length, HPL.out]
        omega
      generalize w4 k i = z at HLD HNx
      have hLt : RdI .u64 (wr.alloc (.cells #[.int .u64 (z : Int)] 22)) (.slice (some ⟨wr.heap.size, 0, none⟩) 1 1) [(z : Int)] := lit1I _
      clear hsub hld hm
      go_wp2_with fail
      refine Calls.mono HLD.out ?_
      rintro e w5 ⟨rfl, rfl⟩
      go_wp2_with (at_builtin; go_must (refine wpList_append_newI (k := .u64) (w := w) rfl _ _ 25 rfl 22 Tryd.underlying25 8 infoU64c _ _ rfl (hN.alloc _) _ _ rfl hLt (by have := HLn.out; simp only [List.length_singleton]; omega) (by have := HLn.out; simp only [List.length_singleton]; omega) ?_))
      intro v6 w6 hN6 _
      rw [HNx.out] at hN6
      clear hN hLt
      go_wp2
      go_roundw
      case rel => exact ⟨i + 1, by omega, by go_num, hN6⟩
      case measure => simp [intOf] <;> omega
    · have hie : i = 8 := by omega
      have hd : decide ((i : Int) < 8) = false := decide_eq_false (by omega)
      have hiI : (8 : Int) ≤ (i : Int) := by omega
      rw [hie] at hN
      clear hie hlt
      have hLt : RdI .u64 (wr.alloc (.cells #[.int .u64 (cm : Int)] 22)) (.slice (some ⟨wr.heap.size, 0, none⟩) 1 1) [(cm : Int)] := lit1I _
      have HLn : Hid ((nI (pW kst7 k 8)).length ≤ 100) := by
        show _ ≤ _
        rw [nI_length, pW_length, HPL.out]
        omega
      go_wp2_with (at_builtin; go_must (refine wpList_append_newI (k := .u64) (w := w) rfl _ _ 25 rfl 22 Tryd.underlying25 8 infoU64c _ _ rfl (hN.alloc _) _ _ rfl hLt (by have := HLn.out; simp only [List.length_singleton]; omega) (by have := HLn.out; simp only [List.length_singleton]; omega) ?_))
      intro v6 w6 hN6 _
      obtain ⟨P2, hP2⟩ : ∃ P : List Nat, P = pW kst7 k 8 ++ [cm] := ⟨_, rfl⟩
      have hM : NewI .u64 22 w v6 (nI (pW P2 n 0)) w6 := by
        rw [pW_zero, hP2, ← nI_append]
        exact hN6
      rw [← hP2] at HWE
      replace HPL : Hid (P2.length = 13) := by show _ = _; rw [hP2, List.length_append, pW_length, HPL.out]; rfl
      clear hN hLt hN6 HLn hP2
      go_wp2
      go_loopw [7, 9] (fun v iv wx => ∃ i : Nat, i ≤ 3 ∧ iv = .int .i64 (i : Int) ∧ NewI .u64 22 w v (nI (pW P2 n i)) wx) (fun _ iv _ => 3 - (intOf iv).toNat)
      case atStart => exact ⟨0, by omega, rfl, hM⟩
      case round =>
        obtain ⟨i, hi, rfl, hN⟩ := hrel
        clear hM
        by_cases hlt : i < 3
        · have hd : decide ((i : Int) < 3) = true := decide_eq_true (by omega)
          have hiI : (i : Int) < 3 := by omega
          obtain ⟨m, hm⟩ : ∃ m : Nat, m = 4 * i := ⟨_, rfl⟩
          have hsub := (Rd.kept HN.out hN.2).sub (4 * i) (4 * i + 4) (by omega) (by omega)
          have hld := refload_any _ _ _ hsub
          rw [Nat.add_sub_cancel_left, w4_load, ← hm] at hld
          have x1 : IntKind.i64.wrap (4 * (i : Int)) = (m : Int) := by rw [show 4 * (i : Int) = (m : Int) by omega]; exact IntWalk.i64_in _ (by omega)
          have x2 : IntKind.i64.wrap ((m : Int) + 4) = ((m + 4 : Nat) : Int) := IntWalk.i64_in _ (by omega)
          have hm1 : (m : Int) + 4 ≤ 12 := by omega
          have hm2 : m + 4 ≤ 12 := by omega
          have hm3 : m + 4 ≤ cn := by omega
          have hm4 : (m : Int) + 4 ≤ (cn : Int) := by omega
          have HLD : Hid (Calls Tryd.prog 71 #[.slice (some ⟨bn, on + m, none⟩) 4 (cn - m)] wr fun e w' => e = .returned (.int .u64 ((w4 n i : Nat) : Int)) ∧ w' = wr) := hld
          have HNx : Hid _ := pW_next P2 n i
          have HLn : Hid ((nI (pW P2 n i)).length ≤ 100) := by
            show _ ≤ _
            rw [nI_length, pW_length, HPL.out]
            omega
          generalize w4 n i = z at HLD HNx
          have hLt : RdI .u64 (wr.alloc (.cells #[.int .u64 (z : Int)] 22)) (.slice (some ⟨wr.heap.size, 0, none⟩) 1 1) [(z : Int)] := lit1I _
          clear hsub hld hm
          go_wp2_with fail
          refine Calls.mono HLD.out ?_
          rintro e w5 ⟨rfl, rfl⟩
          go_wp2_with (at_builtin; go_must (refine wpList_append_newI (k := .u64) (w := w) rfl _ _ 25 rfl 22 Tryd.underlying25 8 infoU64c _ _ rfl (hN.alloc _) _ _ rfl hLt (by have := HLn.out; simp only [List.length_singleton]; omega) (by have := HLn.out; simp only [List.length_singleton]; omega) ?_))
          intro v6 w6 hN6 _
          rw [HNx.out] at hN6
          clear hN hLt
          go_wp2
          go_roundw
          case rel => exact ⟨i + 1, by omega, by go_num, hN6⟩
          case measure => simp [intOf] <;> omega
        · have hie : i = 3 := by omega
          have hd : decide ((i : Int) < 3) = false := decide_eq_false (by omega)
          have hiI : (3 : Int) ≤ (i : Int) := by omega
          rw [hie] at hN
          clear hie hlt
          rw [← HWE.out] at hN
          have hb1 := hN.2
          have hRw := hN.rd
          clear hN
          obtain ⟨W, hWdef⟩ : ∃ W : List Nat, W = bkW k c n := ⟨_, rfl⟩
          rw [← hWdef] at HW hRw
          have HWD : Hid _ := hWdef
          clear hWdef
          have hne : nI W ≠ [] := nI_ne (by rw [← List.length_pos_iff, HW.out.1]; decide)
          obtain ⟨gw, ow, cw, rfl, hcw, hcw2, hgw, hcellw⟩ := hRw.cells hne
          unfold maxLen at hcw2
          have hlW : (nI W).length = 16 := by rw [nI_length]; exact HW.out.1
          rw [hlW] at hcw hRw hcellw ⊢
          have hV0 : NewI .u64 22 wr (.slice none 0 0) [] wr := NewI.start wr
          have HLW : Hid ((nI W).length = 16) := hlW
          rename World => wV
          clear hlW
          go_wp2_with (at_builtin; go_must (refine wpList_append_newI (k := .u64) (w := wV) rfl _ _ 25 rfl 22 Tryd.underlying25 8 infoU64c _ _ rfl hV0 _ _ rfl hRw (by rw [HLW.out]; decide) (by rw [HLW.out]; decide) ?_))
          intro v7 w7 hN7 _
          obtain ⟨gv, cv, rfl, -, -, hcv, hcv2, -, -, -⟩ := hN7.all hne
          unfold maxLen at hcv2
          rw [HLW.out] at hN7 hcv ⊢
          have hN0 : NewI .u64 22 wV (.slice (some ⟨gv, 0, none⟩) 16 cv) (nI (qDbl W 0)) w7 := hN7
          clear hN7 hV0 hRw
          go_wp2
          go_loopw [11] (fun iv wx => ∃ i : Nat, i ≤ 10 ∧ iv = .int .i64 (i : Int) ∧ NewI .u64 22 wV (.slice (some ⟨gv, 0, none⟩) 16 cv) (nI (qDbl W i)) wx) (fun iv _ => 10 - (intOf iv).toNat)
          case atStart => exact ⟨0, by omega, rfl, hN0⟩
          case round =>
            obtain ⟨i, hi, rfl, hN⟩ := hrel
            clear hN0
            by_cases hlt : i < 10
            · have hd : decide ((i : Int) < 10) = true := decide_eq_true (by omega)
              have hiI : (i : Int) < 10 := by omega
              have hNc : NewI .u64 22 wV (.slice (some ⟨gv, 0, none⟩) 16 cv) (nI (qCol (qDbl W i) 0)) wr := hN
              clear hN
              go_wp2
              go_loopw [12] (fun kv wx => ∃ k : Nat, k ≤ 4 ∧ kv = .int .i64 (k : Int) ∧ NewI .u64 22 wV (.slice (some ⟨gv, 0, none⟩) 16 cv) (nI (qCol (qDbl W i) k)) wx) (fun kv _ => 4 - (intOf kv).toNat)
              case atStart => exact ⟨0, by omega, rfl, hNc⟩
              case round =>
                obtain ⟨k', hk', rfl, hN⟩ := hrel
                clear hNc
                by_cases hltk : k' < 4
                · have hdk : decide ((k' : Int) < 4) = true := decide_eq_true (by omega)
                  have hkI : (k' : Int) < 4 := by omega
                  have HV : Hid (W16 (qCol (qDbl W i) k')) := qCol_ok (qDbl_ok HW.out i) k'
                  have HNext : Hid (qAt (qCol (qDbl W i) k') k' (k' + 4) (k' + 8) (k' + 12) = qCol (qDbl W i) (k' + 1)) := by show _ = _; rfl
                  generalize qCol (qDbl W i) k' = V at hN HV HNext
                  obtain ⟨k4, k8, k12, hk4, hk8, hk12, x1, x2, x3, l0, l1, l2, l3, m0, m1, m2, m3⟩ := col_facts k' hltk
                  rw [← hk4, ← hk8, ← hk12] at HNext
                  clear hk4 hk8 hk12
                  have hlV : (nI V).length = 16 := by rw [nI_length]; exact HV.out.1
                  have c0 := (hN.place (j := k') (by omega)).2.2.1
                  have c1 := (hN.place (j := k4) (by omega)).2.2.1
                  have c2 := (hN.place (j := k8) (by omega)).2.2.1
                  have c3 := (hN.place (j := k12) (by omega)).2.2.1
                  rw [nI_get] at c0 c1 c2 c3
                  have HlV : Hid _ := hlV
                  clear hlV
                  go_wp2_with fail
                  have hB : Below wr.heap.size wr wr.drew := (Below.refl _ _).drew
                  refine wpF_begin 37 (w0 := wr) (by kernel_rfl) ?_
                  refine fP_ (.inr hB) 0 rfl ⟨_, by intro W; go_simp <;> with_reducible rfl, ?_⟩
                  try simp only [Act.put, pA_, pB_, pC_]
                  refine fP_ (.inr hB) 1 rfl ⟨_, by intro W; go_simp <;> with_reducible rfl, ?_⟩
                  try simp only [Act.put, pA_, pB_, pC_]
                  refine fP_ (.inr hB) 2 rfl ⟨_, by intro W; go_simp <;> with_reducible rfl, ?_⟩
                  try simp only [Act.put, pA_, pB_, pC_]
                  refine fP_ (.inr hB) 3 rfl ⟨_, by intro W; go_simp <;> with_reducible rfl, ?_⟩
                  try simp only [Act.put, pA_, pB_, pC_]
                  refine fP_ (.inr hB) 4 rfl ⟨_, by intro W; go_simp <;> with_reducible rfl, ?_⟩
                  try simp only [Act.put, pA_, pB_, pC_]
                  refine fP_ (.inr hB) 5 rfl ⟨_, by intro W; go_simp <;> with_reducible rfl, ?_⟩
                  try simp only [Act.put, pA_, pB_, pC_]
                  refine fP_ (.inr hB) 6 rfl ⟨_, by intro W; go_simp <;> with_reducible rfl, ?_⟩
                  try simp only [Act.put, pA_, pB_, pC_]
                  refine fP_ (.inr hB) 7 rfl ⟨_, by intro W; go_simp <;> with_reducible rfl, ?_⟩
                  try simp only [Act.put, pA_, pB_, pC_]
                  refine fP_ (.inr hB) 8 rfl ⟨_, by intro W; go_simp <;> with_reducible rfl, ?_⟩
                  try simp only [Act.put, pA_, pB_, pC_]
                  refine fP_ (.inr hB) 9 rfl ⟨_, by intro W; go_simp <;> with_reducible rfl, ?_⟩
                  try simp only [Act.put, pA_, pB_, pC_]
                  refine fP_ (.inr hB) 10 rfl ⟨_, by intro W; go_simp <;> with_reducible rfl, ?_⟩
                  try simp only [Act.put, pA_, pB_, pC_]
                  refine fP_ (.inr hB) 11 rfl ⟨_, by intro W; go_simp <;> with_reducible rfl, ?_⟩
                  try simp only [Act.put, pA_, pB_, pC_]
                  refine fP_ (.inr hB) 12 rfl ⟨_, by intro W; go_simp <;> with_reducible rfl, ?_⟩
                  try simp only [Act.put, pA_, pB_, pC_]
                  refine fP_ (.inr hB) 13 rfl ⟨_, by intro W; go_simp <;> with_reducible rfl, ?_⟩
                  try simp only [Act.put, pA_, pB_, pC_]
                  refine fU_ hB 14 rfl ⟨_, by intro W hW; have hcW := cellK0 c0 hW; go_simp <;> with_reducible rfl, ?_⟩
                  try simp only [Act.put, pA_, pB_, pC_]
                  refine fP_ (.inr hB) 15 rfl ⟨_, by intro W; go_simp <;> with_reducible rfl, ?_⟩
                  try simp only [Act.put, pA_, pB_, pC_]
                  refine fP_ (.inr hB) 16 rfl ⟨_, by intro W; go_simp <;> with_reducible rfl, ?_⟩
                  try simp only [Act.put, pA_, pB_, pC_]
                  refine fP_ (.inr hB) 17 rfl ⟨_, by intro W; go_simp <;> with_reducible rfl, ?_⟩
                  try simp only [Act.put, pA_, pB_, pC_]
                  refine fP_ (.inr hB) 18 rfl ⟨_, by intro W; go_simp <;> with_reducible rfl, ?_⟩
                  try simp only [Act.put, pA_, pB_, pC_]
                  refine fU_ hB 19 rfl ⟨_, by intro W hW; have hcW := cellK0 c1 hW; go_simp <;> with_reducible rfl, ?_⟩
                  try simp only [Act.put, pA_, pB_, pC_]
                  refine fP_ (.inr hB) 20 rfl ⟨_, by intro W; go_simp <;> with_reducible rfl, ?_⟩
                  try simp only [Act.put, pA_, pB_, pC_]
                  refine fP_ (.inr hB) 21 rfl ⟨_, by intro W; go_simp <;> with_reducible rfl, ?_⟩
                  try simp only [Act.put, pA_, pB_, pC_]
                  refine fP_ (.inr hB) 22 rfl ⟨_, by intro W; go_simp <;> with_reducible rfl, ?_⟩
                  try simp only [Act.put, pA_, pB_, pC_]
                  refine fP_ (.inr hB) 23 rfl ⟨_, by intro W; go_simp <;> with_reducible rfl, ?_⟩
                  try simp only [Act.put, pA_, pB_, pC_]
                  refine fU_ hB 24 rfl ⟨_, by intro W hW; have hcW := cellK0 c2 hW; go_simp <;> with_reducible rfl, ?_⟩
                  try simp only [Act.put, pA_, pB_, pC_]
                  refine fP_ (.inr hB) 25 rfl ⟨_, by intro W; go_simp <;> with_reducible rfl, ?_⟩
                  try simp only [Act.put, pA_, pB_, pC_]
                  refine fP_ (.inr hB) 26 rfl ⟨_, by intro W; go_simp <;> with_reducible rfl, ?_⟩
                  try simp only [Act.put, pA_, pB_, pC_]
                  refine fP_ (.inr hB) 27 rfl ⟨_, by intro W; go_simp <;> with_reducible rfl, ?_⟩
                  try simp only [Act.put, pA_, pB_, pC_]
                  refine fP_ (.inr hB) 28 rfl ⟨_, by intro W; go_simp <;> with_reducible rfl, ?_⟩
                  try simp only [Act.put, pA_, pB_, pC_]
                  refine fU_ hB 29 rfl ⟨_, by intro W hW; have hcW := cellK0 c3 hW; go_simp <;> with_reducible rfl, ?_⟩
                  try simp only [Act.put, pA_, pB_, pC_]
                  refine fD_ 30 fun K hK => ?_
                  go_simp
                  refine (quarterR_any (q4 V k' k4 k8 k12) (q4_ok HV.out k' k4 k8 k12) _ _ _ _ rfl rfl rfl rfl _).mono ?_
                  rintro e w5 ⟨rfl, b5⟩
                  replace hB := stepB hB b5
                  have hN5 := hN.drew.kept b5
                  refine hK.out _ _ (.inr hB) ?_
                  clear hK K
                  try simp only [Act.put, pA_, pB_, pC_]
                  refine fP_ (.inr hB) 31 rfl ⟨_, by intro W; go_simp <;> with_reducible rfl, ?_⟩
                  try simp only [Act.put, pA_, pB_, pC_]
                  refine fP_ (.inr hB) 32 rfl ⟨_, by intro W; go_simp <;> with_reducible rfl, ?_⟩
                  try simp only [Act.put, pA_, pB_, pC_]
                  refine fP_ (.inr hB) 33 rfl ⟨_, by intro W; go_simp <;> with_reducible rfl, ?_⟩
                  try simp only [Act.put, pA_, pB_, pC_]
                  refine fP_ (.inr hB) 34 rfl ⟨_, by intro W; go_simp <;> with_reducible rfl, ?_⟩
                  try simp only [Act.put, pA_, pB_, pC_]
                  refine fP_ (.inr hB) 35 rfl ⟨_, by intro W; go_simp <;> with_reducible rfl, ?_⟩
                  try simp only [Act.put, pA_, pB_, pC_]
                  refine fP_ (.inr hB) 36 rfl ⟨_, by intro W; go_simp <;> with_reducible rfl, ?_⟩
                  try simp only [Act.put, pA_, pB_, pC_]
                  refine fD_ 37 fun K hK => ?_
                  refine wp_store_word _ _ rfl rfl _ rfl hN5 (by rw [nI_length, HV.out.1]; omega) ?_
                  intro w6 hN6
                  rw [nI_set] at hN6
                  refine hK.out _ _ (.inl rfl) ?_
                  clear hK K
                  try simp only [Act.put, pA_, pB_, pC_]
                  refine fP_ (.inl (by kernel_rfl)) 38 rfl ⟨_, by intro W; go_simp <;> with_reducible rfl, ?_⟩
                  try simp only [Act.put, pA_, pB_, pC_]
                  refine fM_ 39 fun K hK => ?_
                  refine wp_store_word _ _ rfl rfl _ rfl hN6 (by simp only [nI_length, List.length_set]; rw [HV.out.1]; omega) ?_
                  intro w7 hN7
                  rw [nI_set] at hN7
                  refine hK.out _ _ ?_
                  clear hK K
                  try simp only [Act.put, pA_, pB_, pC_]
                  refine fP_ (.inl (by kernel_rfl)) 40 rfl ⟨_, by intro W; go_simp <;> with_reducible rfl, ?_⟩
                  try simp only [Act.put, pA_, pB_, pC_]
                  refine fM_ 41 fun K hK => ?_
                  refine wp_store_word _ _ rfl rfl _ rfl hN7 (by simp only [nI_length, List.length_set]; rw [HV.out.1]; omega) ?_
                  intro w8 hN8
                  rw [nI_set] at hN8
                  refine hK.out _ _ ?_
                  clear hK K
                  try simp only [Act.put, pA_, pB_, pC_]
                  refine fP_ (.inl (by kernel_rfl)) 42 rfl ⟨_, by intro W; go_simp <;> with_reducible rfl, ?_⟩
                  try simp only [Act.put, pA_, pB_, pC_]
                  refine fM_ 43 fun K hK => ?_
                  refine wp_store_word _ _ rfl rfl _ rfl hN8 (by simp only [nI_length, List.length_set]; rw [HV.out.1]; omega) ?_
                  intro w9 hN9
                  rw [nI_set] at hN9
                  refine hK.out _ _ ?_
                  clear hK K
                  try simp only [Act.put, pA_, pB_, pC_]
                  refine wpF_done (by kernel_rfl) ?_
                  have hN10 : NewI .u64 22 wV (.slice (some ⟨gv, 0, none⟩) 16 cv) (nI (qCol (qDbl W i) (k' + 1))) w9 := by
                    rw [← HNext.out]
                    exact hN9
                  clear hN c0 c1 c2 c3 hN5 hN6 hN7 hN8 hN9 hB b5
                  go_wp2
                  go_roundw
                  case rel => exact ⟨k' + 1, by omega, by go_num, hN10⟩
                  case measure => simp [intOf] <;> omega
                · have hke : k' = 4 := by omega
                  have hdk : decide ((k' : Int) < 4) = false := decide_eq_false (by omega)
                  have hkI : (4 : Int) ≤ (k' : Int) := by omega
                  have hNd : NewI .u64 22 wV (.slice (some ⟨gv, 0, none⟩) 16 cv) (nI (qDia (qCol (qDbl W i) 4) 0)) wr := by
                    rw [← hke]
                    exact hN
                  clear hN hke
                  go_wp2
                  go_loopw [13] (fun kv wx => ∃ k : Nat, k ≤ 4 ∧ kv = .int .i64 (k : Int) ∧ NewI .u64 22 wV (.slice (some ⟨gv, 0, none⟩) 16 cv) (nI (qDia (qCol (qDbl W i) 4) k)) wx) (fun kv _ => 4 - (intOf kv).toNat)
                  case atStart => exact ⟨0, by omega, rfl, hNd⟩
                  case round =>
                    obtain ⟨k', hk', rfl, hN⟩ := hrel
                    clear hNd
                    by_cases hltk : k' < 4
                    · have hdk : decide ((k' : Int) < 4) = true := decide_eq_true (by omega)
                      have hkI : (k' : Int) < 4 := by omega
                      have HV : Hid (W16 (qDia (qCol (qDbl W i) 4) k')) := qDia_ok (qCol_ok (qDbl_ok HW.out i) 4) k'
                      have HNext : Hid (qAt (qDia (qCol (qDbl W i) 4) k') k' (4 + (k' + 1) % 4) (8 + (k' + 2) % 4) (12 + (k' + 3) % 4) = qDia (qCol (qDbl W i) 4) (k' + 1)) := by show _ = _; rfl
                      generalize qDia (qCol (qDbl W i) 4) k' = V at hN HV HNext
                      obtain ⟨r4, r8, r12, k4, k8, k12, hk4, hk8, hk12, z1, z2, z3, t1, t2, t3, t4, t5, t6, x1, x2, x3, l0, l1, l2, l3, m0, m1, m2, m3⟩ := dia_facts k' hltk
                      rw [← hk4, ← hk8, ← hk12] at HNext
                      clear hk4 hk8 hk12
                      have hlV : (nI V).length = 16 := by rw [nI_length]; exact HV.out.1
                      have c0 := (hN.place (j := k') (by omega)).2.2.1
                      have c1 := (hN.place (j := k4) (by omega)).2.2.1
                      have c2 := (hN.place (j := k8) (by omega)).2.2.1
                      have c3 := (hN.place (j := k12) (by omega)).2.2.1
                      rw [nI_get] at c0 c1 c2 c3
                      have HlV : Hid _ := hlV
                      clear hlV
                      go_wp2_with fail
                      have hB : Below wr.heap.size wr wr.drew := (Below.refl _ _).drew
                      refine wpF_begin 31 (w0 := wr) (by kernel_rfl) ?_
                      refine fP_ (.inr hB) 0 rfl ⟨_, by intro W; go_simp <;> with_reducible rfl, ?_⟩
                      try simp only [Act.put, pA_, pB_, pC_]
                      refine fP_ (.inr hB) 1 rfl ⟨_, by intro W; go_simp <;> with_reducible rfl, ?_⟩
                      try simp only [Act.put, pA_, pB_, pC_]
                      refine fP_ (.inr hB) 2 rfl ⟨_, by intro W; go_simp <;> with_reducible rfl, ?_⟩
                      try simp only [Act.put, pA_, pB_, pC_]
                      refine fP_ (.inr hB) 3 rfl ⟨_, by intro W; go_simp <;> with_reducible rfl, ?_⟩
                      try simp only [Act.put, pA_, pB_, pC_]
                      refine fP_ (.inr hB) 4 rfl ⟨_, by intro W; go_simp <;> with_reducible rfl, ?_⟩
                      try simp only [Act.put, pA_, pB_, pC_]
                      refine fP_ (.inr hB) 5 rfl ⟨_, by intro W; go_simp <;> with_reducible rfl, ?_⟩
                      try simp only [Act.put, pA_, pB_, pC_]
                      refine fP_ (.inr hB) 6 rfl ⟨_, by intro W; go_simp <;> with_reducible rfl, ?_⟩
                      try simp only [Act.put, pA_, pB_, pC_]
                      refine fP_ (.inr hB) 7 rfl ⟨_, by intro W; go_simp <;> with_reducible rfl, ?_⟩
                      try simp only [Act.put, pA_, pB_, pC_]
                      refine fP_ (.inr hB) 8 rfl ⟨_, by intro W; go_simp <;> with_reducible rfl, ?_⟩
                      try simp only [Act.put, pA_, pB_, pC_]
                      refine fP_ (.inr hB) 9 rfl ⟨_, by intro W; go_simp <;> with_reducible rfl, ?_⟩
                      try simp only [Act.put, pA_, pB_, pC_]
                      refine fP_ (.inr hB) 10 rfl ⟨_, by intro W; go_simp <;> with_reducible rfl, ?_⟩
                      try simp only [Act.put, pA_, pB_, pC_]
                      refine fU_ hB 11 rfl ⟨_, by intro W hW; have hcW := cellK0 c0 hW; go_simp <;> with_reducible rfl, ?_⟩
                      try simp only [Act.put, pA_, pB_, pC_]
                      refine fP_ (.inr hB) 12 rfl ⟨_, by intro W; go_simp <;> with_reducible rfl, ?_⟩
                      try simp only [Act.put, pA_, pB_, pC_]
                      refine fP_ (.inr hB) 13 rfl ⟨_, by intro W; go_simp <;> with_reducible rfl, ?_⟩
                      try simp only [Act.put, pA_, pB_, pC_]
                      refine fP_ (.inr hB) 14 rfl ⟨_, by intro W; go_simp <;> with_reducible rfl, ?_⟩
                      try simp only [Act.put, pA_, pB_, pC_]
                      refine fU_ hB 15 rfl ⟨_, by intro W hW; have hcW := cellK0 c1 hW; go_simp <;> with_reducible rfl, ?_⟩
                      try simp only [Act.put, pA_, pB_, pC_]
                      refine fP_ (.inr hB) 16 rfl ⟨_, by intro W; go_simp <;> with_reducible rfl, ?_⟩
                      try simp only [Act.put, pA_, pB_, pC_]
                      refine fP_ (.inr hB) 17 rfl ⟨_, by intro W; go_simp <;> with_reducible rfl, ?_⟩
                      try simp only [Act.put, pA_, pB_, pC_]
                      refine fP_ (.inr hB) 18 rfl ⟨_, by intro W; go_simp <;> with_reducible rfl, ?_⟩
                      try simp only [Act.put, pA_, pB_, pC_]
                      refine fU_ hB 19 rfl ⟨_, by intro W hW; have hcW := cellK0 c2 hW; go_simp <;> with_reducible rfl, ?_⟩
                      try simp only [Act.put, pA_, pB_, pC_]
                      refine fP_ (.inr hB) 20 rfl ⟨_, by intro W; go_simp <;> with_reducible rfl, ?_⟩
                      try simp only [Act.put, pA_, pB_, pC_]
                      refine fP_ (.inr hB) 21 rfl ⟨_, by intro W; go_simp <;> with_reducible rfl, ?_⟩
                      try simp only [Act.put, pA_, pB_, pC_]
                      refine fP_ (.inr hB) 22 rfl ⟨_, by intro W; go_simp <;> with_reducible rfl, ?_⟩
                      try simp only [Act.put, pA_, pB_, pC_]
                      refine fU_ hB 23 rfl ⟨_, by intro W hW; have hcW := cellK0 c3 hW; go_simp <;> with_reducible rfl, ?_⟩
                      try simp only [Act.put, pA_, pB_, pC_]
                      refine fD_ 24 fun K hK => ?_
                      go_simp
                      refine (quarterR_any (q4 V k' k4 k8 k12) (q4_ok HV.out k' k4 k8 k12) _ _ _ _ rfl rfl rfl rfl _).mono ?_
                      rintro e w5 ⟨rfl, b5⟩
                      replace hB := stepB hB b5
                      have hN5 := hN.drew.kept b5
                      refine hK.out _ _ (.inr hB) ?_
                      clear hK K
                      try simp only [Act.put, pA_, pB_, pC_]
                      refine fP_ (.inr hB) 25 rfl ⟨_, by intro W; go_simp <;> with_reducible rfl, ?_⟩
                      try simp only [Act.put, pA_, pB_, pC_]
                      refine fP_ (.inr hB) 26 rfl ⟨_, by intro W; go_simp <;> with_reducible rfl, ?_⟩
                      try simp only [Act.put, pA_, pB_, pC_]
                      refine fP_ (.inr hB) 27 rfl ⟨_, by intro W; go_simp <;> with_reducible rfl, ?_⟩
                      try simp only [Act.put, pA_, pB_, pC_]
                      refine fP_ (.inr hB) 28 rfl ⟨_, by intro W; go_simp <;> with_reducible rfl, ?_⟩
                      try simp only [Act.put, pA_, pB_, pC_]
                      refine fP_ (.inr hB) 29 rfl ⟨_, by intro W; go_simp <;> with_reducible rfl, ?_⟩
                      try simp only [Act.put, pA_, pB_, pC_]
                      refine fP_ (.inr hB) 30 rfl ⟨_, by intro W; go_simp <;> with_reducible rfl, ?_⟩
                      try simp only [Act.put, pA_, pB_, pC_]
                      refine fD_ 31 fun K hK => ?_
                      refine wp_store_word _ _ rfl rfl _ rfl hN5 (by rw [nI_length, HV.out.1]; omega) ?_
                      intro w6 hN6
                      rw [nI_set] at hN6
                      refine hK.out _ _ (.inl rfl) ?_
                      clear hK K
                      try simp only [Act.put, pA_, pB_, pC_]
                      refine fP_ (.inl (by kernel_rfl)) 32 rfl ⟨_, by intro W; go_simp <;> with_reducible rfl, ?_⟩
                      try simp only [Act.put, pA_, pB_, pC_]
                      refine fM_ 33 fun K hK => ?_
                      refine wp_store_word _ _ rfl rfl _ rfl hN6 (by simp only [nI_length, List.length_set]; rw [HV.out.1]; omega) ?_
                      intro w7 hN7
                      rw [nI_set] at hN7
                      refine hK.out _ _ ?_
                      clear hK K
                      try simp only [Act.put, pA_, pB_, pC_]
                      refine fP_ (.inl (by kernel_rfl)) 34 rfl ⟨_, by intro W; go_simp <;> with_reducible rfl, ?_⟩
                      try simp only [Act.put, pA_, pB_, pC_]
                      refine fM_ 35 fun K hK => ?_
                      refine wp_store_word _ _ rfl rfl _ rfl hN7 (by simp only [nI_length, List.length_set]; rw [HV.out.1]; omega) ?_
                      intro w8 hN8
                      rw [nI_set] at hN8
                      refine hK.out _ _ ?_
                      clear hK K
                      try simp only [Act.put, pA_, pB_, pC_]
                      refine fP_ (.inl (by kernel_rfl)) 36 rfl ⟨_, by intro W; go_simp <;> with_reducible rfl, ?_⟩
                      try simp only [Act.put, pA_, pB_, pC_]
                      refine fM_ 37 fun K hK => ?_
                      refine wp_store_word _ _ rfl rfl _ rfl hN8 (by simp only [nI_length, List.length_set]; rw [HV.out.1]; omega) ?_
                      intro w9 hN9
                      rw [nI_set] at hN9
                      refine hK.out _ _ ?_
                      clear hK K
                      try simp only [Act.put, pA_, pB_, pC_]
                      refine wpF_done (by kernel_rfl) ?_
                      have hN10 : NewI .u64 22 wV (.slice (some ⟨gv, 0, none⟩) 16 cv) (nI (qDia (qCol (qDbl W i) 4) (k' + 1))) w9 := by
                        rw [← HNext.out]
                        exact hN9
                      clear hN c0 c1 c2 c3 hN5 hN6 hN7 hN8 hN9 hB b5
                      go_wp2
                      go_roundw
                      case rel => exact ⟨k' + 1, by omega, by go_num, hN10⟩
                      case measure => simp [intOf] <;> omega
                    · have hke : k' = 4 := by omega
                      have hdk : decide ((k' : Int) < 4) = false := decide_eq_false (by omega)
                      have hkI : (4 : Int) ≤ (k' : Int) := by omega
                      have hNe : NewI .u64 22 wV (.slice (some ⟨gv, 0, none⟩) 16 cv) (nI (qDbl W (i + 1))) wr := by
                        rw [hke] at hN
                        exact hN
                      clear hN hke
                      go_wp2
                      go_roundw
                      case rel => exact ⟨i + 1, by omega, by go_num, hNe⟩
                      case measure => simp [intOf] <;> omega
            · have hie : i = 10 := by omega
              have hd : decide ((i : Int) < 10) = false := decide_eq_false (by omega)
              have hiI : (10 : Int) ≤ (i : Int) := by omega
              rw [hie] at hN
              clear hie
              have HV : Hid (W16 (qDbl W 10)) := qDbl_ok HW.out 10
              have HF : Hid (bkL k c n = wB (fun i => ((qDbl W 10).getD i 0 + W.getD i 0) % 4294967296) 16) := by show _ = _; rw [HWD.out]; rfl
              have hbV := stepB hb1 hN.2
              have hcv3 : ∀ j, j < 16 → wr.cell? ⟨gv, j, none⟩ = some (.int .u64 (((qDbl W 10).getD j 0 : Nat) : Int)) := fun j hj => by
                have := (hN.place (j := j) (by rw [nI_length, HV.out.1]; exact hj)).2.2.1
                rw [nI_get] at this
                exact this
              have hcw3 : ∀ j, j < 16 → wr.cell? ⟨gw, ow + j, none⟩ = some (.int .u64 ((W.getD j 0 : Nat) : Int)) := fun j hj => by
                have := cellK0 (hcellw j hj) hN.2
                rw [nI_get] at this
                exact this
              have HCV : Hid _ := hcv3
              have HCW : Hid _ := hcw3
              generalize qDbl W 10 = V at HV HF HCV
              clear hN hcv3 hcw3 hcellw
              rename World => wO
              have hO : New 5 wO (.slice none 0 0) (wB (fun i => (V.getD i 0 + W.getD i 0) % 4294967296) 0) wO := New.start wO
              go_wp2
              go_loopw [17, 18] (fun v iv wx => ∃ i : Nat, i ≤ 16 ∧ iv = .int .i64 (i : Int) ∧ New 5 wO v (wB (fun i => (V.getD i 0 + W.getD i 0) % 4294967296) i) wx) (fun _ iv _ => 16 - (intOf iv).toNat)
              case atStart => exact ⟨0, by omega, rfl, hO⟩
              case round =>
                obtain ⟨i, hi, rfl, hN⟩ := hrel
                clear hO
                by_cases hlt : i < 16
                · have hd : decide ((i : Int) < 16) = true := decide_eq_true (by omega)
                  have hiI : (i : Int) < 16 := by omega
                  have cv1 := HCV.out i hlt
                  have cw1 := HCW.out i hlt
                  have b1 := HV.out.get i
                  have b2 := HW.out.get i
                  obtain ⟨z, hz⟩ : ∃ z : Nat, z = (V.getD i 0 + W.getD i 0) % 4294967296 := ⟨_, rfl⟩
                  have HNx : Hid (wB (fun i => (V.getD i 0 + W.getD i 0) % 4294967296) i ++ (List.range 4).map (stB z) = wB (fun i => (V.getD i 0 + W.getD i 0) % 4294967296) (i + 1)) := by
                    show _ = _
                    rw [hz]
                    rfl
                  have HLn : Hid ((wB (fun i => (V.getD i 0 + W.getD i 0) % 4294967296) i).length ≤ 100) := by
                    show _ ≤ _
                    rw [wB_length]
                    omega
                  generalize wB (fun i => (V.getD i 0 + W.getD i 0) % 4294967296) i = L0 at hN HNx HLn
                  obtain ⟨L1, hL1⟩ : ∃ L : List UInt8, L = wB (fun i => (V.getD i 0 + W.getD i 0) % 4294967296) (i + 1) := ⟨_, rfl⟩
                  rw [← hL1] at HNx
                  have HL1 : Hid _ := hL1
                  clear hL1
                  generalize V.getD i 0 = p at cv1 b1 hz
                  generalize W.getD i 0 = q at cw1 b2 hz
                  obtain ⟨s1, hs1⟩ : ∃ s : Nat, s = p + q := ⟨_, rfl⟩
                  have e1 : IntKind.u64.wrap ((p : Int) + (q : Int)) = (s1 : Int) := by rw [IntKind.wrap_u64]; omega
                  have e2 : ((s1 : Nat) : Int).tmod 4294967296 = (z : Int) := by rw [Int.tmod_eq_emod_of_nonneg (by omega)]; omega
                  have e3 : IntKind.u64.wrap (z : Int) = (z : Int) := by rw [IntKind.wrap_u64]; omega
                  have hzl : z < 18446744073709551616 := by omega
                  obtain ⟨zs, hzs⟩ : ∃ zs : List UInt8, zs = (List.range 4).map (stB z) := ⟨_, rfl⟩
                  have hzl4 : zs.length = 4 := by rw [hzs]; simp
                  rw [← hzs] at HNx
                  have HZS : Hid _ := hzs
                  have HZ4 : Hid _ := hzl4
                  clear hs1 hz hzs hzl4
                  go_wp2_with fail
                  refine wpB_begin hN.2 (by kernel_rfl) ?_
                  refine bU_ (Below.drew hN.2) 0 rfl ⟨_, by intro W hW; go_simp <;> with_reducible rfl, ?_⟩
                  try simp only [Act.put, pA_, pB_, pC_]
                  refine bU_ (Below.drew hN.2) 1 rfl ⟨_, by intro W hW; go_simp <;> with_reducible rfl, ?_⟩
                  try simp only [Act.put, pA_, pB_, pC_]
                  refine bU_ (Below.drew hN.2) 2 rfl ⟨_, by intro W hW; go_simp <;> with_reducible rfl, ?_⟩
                  try simp only [Act.put, pA_, pB_, pC_]
                  refine bU_ (Below.drew hN.2) 3 rfl ⟨_, by intro W hW; go_simp <;> with_reducible rfl, ?_⟩
                  try simp only [Act.put, pA_, pB_, pC_]
                  refine bU_ (Below.drew hN.2) 4 rfl ⟨_, by intro W hW; have hcW := cellK0 cv1 hW; go_simp <;> with_reducible rfl, ?_⟩
                  try simp only [Act.put, pA_, pB_, pC_]
                  refine bU_ (Below.drew hN.2) 5 rfl ⟨_, by intro W hW; go_simp <;> with_reducible rfl, ?_⟩
                  try simp only [Act.put, pA_, pB_, pC_]
                  refine bU_ (Below.drew hN.2) 6 rfl ⟨_, by intro W hW; go_simp <;> with_reducible rfl, ?_⟩
                  try simp only [Act.put, pA_, pB_, pC_]
                  refine bU_ (Below.drew hN.2) 7 rfl ⟨_, by intro W hW; go_simp <;> with_reducible rfl, ?_⟩
                  try simp only [Act.put, pA_, pB_, pC_]
                  refine bU_ (Below.drew hN.2) 8 rfl ⟨_, by intro W hW; have hcW := cellK0 cw1 hW; go_simp <;> with_reducible rfl, ?_⟩
                  try simp only [Act.put, pA_, pB_, pC_]
                  refine bU_ (Below.drew hN.2) 9 rfl ⟨_, by intro W hW; go_simp <;> with_reducible rfl, ?_⟩
                  try simp only [Act.put, pA_, pB_, pC_]
                  refine bU_ (Below.drew hN.2) 10 rfl ⟨_, by intro W hW; go_simp <;> with_reducible rfl, ?_⟩
                  try simp only [Act.put, pA_, pB_, pC_]
                  refine bD_ 11 fun K hK => ?_
                  go_simp
                  refine (refstore_k z hzl 4 4 (by omega) (.inr (.inl ⟨by omega, by omega, rfl⟩)) _).mono ?_
                  rintro e w5 ⟨v5, rfl, hN5⟩
                  have hR5 := hN5.rd
                  rw [← HZS.out] at hR5
                  have hN6 := hN.drew.kept hN5.2
                  refine hK.out _ _ hN6.2 ?_
                  clear hK K
                  try simp only [Act.put, pA_, pB_, pC_]
                  refine bD_ 12 fun K hK => ?_
                  refine wp_append_new (w := wO) _ _ 40 (by rfl) 5 Tryd.underlying40 infoU8 _ _ (by rfl) hN6 _ _ (by rfl) hR5 (by have := HLn.out; rw [HZ4.out]; omega) ?_
                  intro v7 w7 hN7 _
                  rw [HNx.out] at hN7
                  refine hK.out _ _ hN7.2 ?_
                  clear hK K
                  try simp only [Act.put, pA_, pB_, pC_]
                  refine bU_ (hN7.2) 13 rfl ⟨_, by intro W hW; go_simp <;> with_reducible rfl, ?_⟩
                  try simp only [Act.put, pA_, pB_, pC_]
                  refine wpB_done (by kernel_rfl) ?_
                  rw [HL1.out] at hN7
                  clear hN hN5 hN6 hR5 cv1 cw1
                  go_wp2
                  go_roundw
                  case rel => exact ⟨i + 1, by omega, by go_num, hN7⟩
                  case measure => simp [intOf] <;> omega
                · have hie : i = 16 := by omega
                  have hd : decide ((i : Int) < 16) = false := decide_eq_false (by omega)
                  have hiI : (16 : Int) ≤ (i : Int) := by omega
                  rw [hie, ← HF.out] at hN
                  clear hie
                  go_wp2
                  go_ret
                  exact ⟨_, rfl, hN.from hbV⟩
end Go.Proofs.YtliiofjcghdjoaaDoor

/- What lays bytes into a state, and what a state begins with: contracts of package chacha, second part. -/
namespace Go.Proofs.YtliiofjcghdjoaaDoor
open Go.ChangeShapes Go.WideShapes Go.ChangeAt Go.RowKit
set_option linter.unusedSimpArgs false
set_option linter.unusedVariables false

/-- Sixteen words as a value. -/
abbrev wdV (l : List Nat) : Value := .agg ((nI l).map (Value.int .u32)).toArray
theorem W16.len {l : List Nat} (h : W16 l) : (nI l).length = 16 := by rw [nI_length, h.1]
theorem W16.ne {l : List Nat} (h : W16 l) : nI l ≠ [] := by
  intro e
  have := h.len
  rw [e] at this
  cases this
theorem wdInfo {l : List Nat} (h : W16 l) : (Tryd.prog.info? 112).map (·.size) = some (nI l).length := by rw [h.len]; kernel_rfl
theorem wdMax {l : List Nat} (h : W16 l) : (nI l).length ≤ maxLen := by rw [h.len]; decide
/-- Sixteen noughts. -/
def z16 : List Nat := [0, 0, 0, 0, 0, 0, 0, 0, 0, 0, 0, 0, 0, 0, 0, 0]
theorem z16_ok : W16 z16 := ⟨rfl, by decide⟩
theorem alloc_wd (w : World) : (Instr.alloc 112 true (.tuple #[])).run Tryd.prog w = .ok (.pointer (some ⟨w.heap.size, 0, none⟩)) (w.alloc (.cells ((nI z16).map (Value.int .u32)).toArray 112)) := by kernel_rfl
/-- The four words that no caller chooses, and noughts. -/
def k16 : List Nat := [1634760805, 857760878, 2036477234, 1797285236, 0, 0, 0, 0, 0, 0, 0, 0, 0, 0, 0, 0]
theorem k16_ok : W16 k16 := ⟨rfl, by decide⟩
theorem build_wd (w : World) : (Instr.build 112 #[(0, .int .u32 1634760805), (1, .int .u32 857760878), (2, .int .u32 2036477234), (3, .int .u32 1797285236)]).run Tryd.prog w = .ok (wdV k16) w := by kernel_rfl
/-- Words of bytes, laid into others from a place on. -/
def lyL (l : List Nat) (p : Nat) (b : List UInt8) : Nat → List Nat
  | 0 => l
  | i + 1 => (lyL l p b i).set (p + i) (w4 b i)
theorem lyL_ok {l : List Nat} (h : W16 l) (p : Nat) (b : List UInt8) : ∀ i, W16 (lyL l p b i)
  | 0 => h
  | i + 1 => (lyL_ok h p b i).set _ (w4_lt _ _)
theorem ly_all (k : List UInt8) (c : Nat) (hc : c < 4294967296) (n : List UInt8) : lyL ((lyL k16 4 k 8).set 12 c) 13 n 3 = bkW k c n := by
  unfold bkW
  rw [Nat.mod_eq_of_lt hc]
  rfl
theorem Wrote.drew {g : Nat} {w w' : World} (h : Wrote g w w') : Wrote g w w'.drew := ⟨h.size, h.other, fun B a hB hb => (h.below B a hB hb).drew⟩
theorem Wrote.ofdrew {g : Nat} {w w' : World} (h : Wrote g w.drew w') : Wrote g w w' := ⟨h.size, h.other, fun B a hB hb => h.below B a hB hb.drew⟩
/-- A number is stored into a row. -/
theorem wp_store_at {e : TypeId} {g cap j : Nat} {l : List Int} {w : World} {op : Oper} {a : Act} {K : Act → World → Prop} {Q : Exit → Act → World → Prop} (x y : Operand) (ho : op.op = .store 108 x y) (hx : a.eval x = .pointer (some ⟨g, j, none⟩)) (X : Int) (hy : a.eval y = .int .u32 X)
    (hr : RowAt .u32 e g cap l w) (hj : j < l.length)
    (h : ∀ w', RowAt .u32 e g cap (l.set j X) w' → Wrote g w w' → K (a.put op.dst undef) w') : op.wp Tryd.prog a w K Q := by
  have hc := hr.cell hj
  have hf := hr.free j
  have h2 := h _ (hr.set j X) (Wrote.set g j w _)
  unfold Oper.wp execOp
  simp only [ho, hx, hy]
  go_simp
  exact h2
theorem lay07_facts (p i : Nat) (hp : p < 1000) (hi : i < 1000) : ∃ q m m4 j : Nat, q = p + i ∧ m = 4 * i ∧ m4 = m + 4 ∧ IntKind.i64.wrap ((p : Int) + (i : Int)) = (q : Int) ∧ IntKind.i64.wrap (4 * (i : Int)) = (m : Int) ∧ IntKind.i64.wrap ((i : Int) + 1) = (j : Int) ∧ IntKind.i64.wrap (4 * (j : Int)) = (m4 : Int) ∧ j = i + 1 := by
  refine ⟨p + i, 4 * i, 4 * i + 4, i + 1, rfl, rfl, rfl, ?_, ?_, ?_, ?_, rfl⟩
  · exact IntWalk.i64_in _ (by omega)
  · exact IntWalk.i64_in _ (by omega)
  · exact IntWalk.i64_in _ (by omega)
  · rw [show (4 : Int) * ((i + 1 : Nat) : Int) = ((4 * i + 4 : Nat) : Int) by omega]
    exact IntWalk.i64_in _ (by omega)

set_option maxRecDepth 100000 in
set_option maxHeartbeats 4000000 in
theorem slay_any (g p : Nat) (P : Int) (hP : P = (p : Int)) (vb : Value) (b : List UInt8) (l : List Nat) (hl : W16 l) (hb4 : p + b.length / 4 ≤ 16) (hne : 0 < b.length) (hb64 : b.length ≤ 64) (w0 w : World) (hb : Rd w0 vb b) (hB0 : Below w0.heap.size w0 w) (hg : w0.heap.size ≤ g) (hr : RowAt .u32 112 g 16 (nI l) w) :
    Calls Tryd.prog 76 #[.pointer (some ⟨g, 0, none⟩), .int .i64 P, vb] w fun e w' => e = .returned (.tuple #[]) ∧ RowAt .u32 112 g 16 (nI (lyL l p b (b.length / 4))) w' ∧ Wrote g w w' := by
  subst hP
  obtain ⟨gb, ob, cb, rfl, -, -, -⟩ := hb.cellAt (i := 0) hne
  obtain ⟨a', c', ev, hcb, hmb, -, -⟩ := id hb
  simp only [Value.slice.injEq] at ev
  obtain ⟨-, -, rfl⟩ := ev
  unfold maxLen at hmb
  obtain ⟨L, hL⟩ : ∃ L : Nat, L = b.length := ⟨_, rfl⟩
  obtain ⟨n4, hn4⟩ : ∃ n4 : Nat, n4 = L / 4 := ⟨_, rfl⟩
  rw [← hL] at hb4 hcb hb64
  rw [← hL, ← hn4] at ⊢
  rw [← hL] at hb
  rw [← hn4] at hb4
  have e0 : ((L : Nat) : Int).tdiv 4 = (n4 : Int) := by rw [Int.tdiv_eq_ediv_of_nonneg (by omega)]; omega
  have e1 : (L : Int) / 4 = (n4 : Int) := by omega
  have HL : Hid _ := hL
  have HN4 : Hid _ := hn4
  have HBr : Hid (Rd w0 (.slice (some ⟨gb, ob, none⟩) L cb) b) := hb
  have HW : Hid (W16 l) := hl
  have hw0 := Wrote.refl g w
  clear hL hn4 hb hl hne
  go_enter Tryd.func76, Tryd.ntmps76
  go_wp2
  go_loopw [10] (fun iv wx => ∃ i : Nat, i ≤ n4 ∧ iv = .int .i64 (i : Int) ∧ RowAt .u32 112 g 16 (nI (lyL l p b i)) wx ∧ Wrote g w wx) (fun iv _ => n4 - (intOf iv).toNat)
  case atStart => exact ⟨0, by omega, rfl, hr, hw0⟩
  case round =>
    obtain ⟨i, hi, rfl, hr1, hw1⟩ := hrel
    clear hr hw0
    by_cases hlt : i < n4
    · have hd : decide ((i : Int) < (n4 : Int)) = true := decide_eq_true (by omega)
      have hiI : (i : Int) < (n4 : Int) := by omega
      have h4 := HN4.out
      obtain ⟨q, m, m4, j, hq, hm, hm4, x1, x2, x3, x4, hj⟩ := lay07_facts p i (by omega) (by omega)
      have hB := hw1.below _ _ hg hB0
      have hsub := ((HBr.out).kept hB).sub (4 * i) (4 * i + 4) (by omega) (by omega)
      have hld := load_any _ _ _ hsub.drew
      rw [Nat.add_sub_cancel_left, w4_load, ← hm] at hld
      have HNx : Hid (nI ((lyL l p b i).set q (w4 b i)) = nI (lyL l p b (i + 1))) := by
        show _ = _
        rw [hq]
        rfl
      have hz := w4_lt b i
      have hlen : (nI (lyL l p b i)).length = 16 := (lyL_ok HW.out p b i).len
      have HLn : Hid _ := hlen
      have hq16 : q < 16 := by omega
      have hq16I : (q : Int) < 16 := by omega
      have ym1 : m4 ≤ L := by omega
      have ym2 : (m4 : Int) ≤ (L : Int) := by omega
      have ym3 : m ≤ m4 := by omega
      have ym4 : (m : Int) ≤ (m4 : Int) := by omega
      have ym5 : m4 ≤ cb := by omega
      have ym6 : (m4 : Int) ≤ (cb : Int) := by omega
      have ym7 : m4 - m = 4 := by omega
      have ym9 : ¬ cb = m := by omega
      have HJ : Hid _ := hj
      have ym8 : (m4 : Int) - (m : Int) = 4 := by omega
      have HLD : Hid (Calls Tryd.prog 87 #[.slice (some ⟨gb, ob + m, none⟩) 4 (cb - m)] wr.drew fun e w' => e = .returned (.int .u64 ((w4 b i : Nat) : Int)) ∧ w' = wr.drew) := hld
      generalize w4 b i = z at HLD HNx hz
      generalize lyL l p b i = V at hr1 HNx HLn
      have x5 : IntKind.u32.wrap (z : Int) = (z : Int) := by rw [IntKind.wrap_u32']; omega
      have x6 : (z : Int) % 4294967296 = (z : Int) := by omega
      clear hsub hld hm hq hm4 h4 hlen hB hj
      go_wp2_with fail
      have hB : Below wr.heap.size wr wr.drew := (Below.refl _ _).drew
      refine wpF_begin 15 (w0 := wr) (by kernel_rfl) ?_
      refine fP_ (.inr hB) 0 rfl ⟨_, by intro W; go_simp <;> with_reducible rfl, ?_⟩
      try simp only [Act.put, pA_, pB_, pC_]
      refine fP_ (.inr hB) 1 rfl ⟨_, by intro W; go_simp <;> with_reducible rfl, ?_⟩
      try simp only [Act.put, pA_, pB_, pC_]
      refine fP_ (.inr hB) 2 rfl ⟨_, by intro W; go_simp <;> with_reducible rfl, ?_⟩
      try simp only [Act.put, pA_, pB_, pC_]
      refine fP_ (.inr hB) 3 rfl ⟨_, by intro W; go_simp <;> with_reducible rfl, ?_⟩
      try simp only [Act.put, pA_, pB_, pC_]
      refine fP_ (.inr hB) 4 rfl ⟨_, by intro W; go_simp <;> with_reducible rfl, ?_⟩
      try simp only [Act.put, pA_, pB_, pC_]
      refine fP_ (.inr hB) 5 rfl ⟨_, by intro W; go_simp <;> with_reducible rfl, ?_⟩
      try simp only [Act.put, pA_, pB_, pC_]
      refine fP_ (.inr hB) 6 rfl ⟨_, by intro W; go_simp <;> with_reducible rfl, ?_⟩
      try simp only [Act.put, pA_, pB_, pC_]
      refine fP_ (.inr hB) 7 rfl ⟨_, by intro W; go_simp <;> with_reducible rfl, ?_⟩
      try simp only [Act.put, pA_, pB_, pC_]
      refine fP_ (.inr hB) 8 rfl ⟨_, by intro W; go_simp <;> with_reducible rfl, ?_⟩
      try simp only [Act.put, pA_, pB_, pC_]
      refine fP_ (.inr hB) 9 rfl ⟨_, by intro W; go_simp <;> with_reducible rfl, ?_⟩
      try simp only [Act.put, pA_, pB_, pC_]
      refine fP_ (.inr hB) 10 rfl ⟨_, by intro W; go_simp <;> with_reducible rfl, ?_⟩
      try simp only [Act.put, pA_, pB_, pC_]
      refine fP_ (.inr hB) 13 rfl ⟨_, by intro W; go_simp <;> with_reducible rfl, ?_⟩
      try simp only [Act.put, pA_, pB_, pC_]
      refine fD_ 11 fun K hK => ?_
      go_simp
      refine Calls.mono HLD.out ?_
      rintro e w5 ⟨rfl, rfl⟩
      refine hK.out _ _ (.inr hB) ?_
      clear hK K
      try simp only [Act.put, pA_, pB_, pC_]
      refine fP_ (.inr hB) 12 rfl ⟨_, by intro W; go_simp <;> with_reducible rfl, ?_⟩
      try simp only [Act.put, pA_, pB_, pC_]
      refine fP_ (.inr hB) 14 rfl ⟨_, by intro W; go_simp <;> with_reducible rfl, ?_⟩
      try simp only [Act.put, pA_, pB_, pC_]
      refine fD_ 15 fun K hK => ?_
      refine wp_store_at _ _ (by rfl) (by rfl) (z : Int) (by rfl) hr1.drew (by rw [HLn.out]; exact hq16) ?_
      intro w6 hr6 hw6
      rw [nI_set, HNx.out] at hr6
      refine hK.out _ _ (.inl rfl) ?_
      clear hK K
      try simp only [Act.put, pA_, pB_, pC_]
      refine wpF_done (by kernel_rfl) ?_
      have hw7 := hw1.trans hw6.ofdrew
      clear hr1 hw1 hw6
      go_wp2
      go_roundw
      case rel => exact ⟨i + 1, by omega, by rw [HJ.out], hr6, hw7⟩
      case measure =>
        have := HJ.out
        simp [intOf] <;> omega
    · have hie : i = n4 := by omega
      have hd : decide ((i : Int) < (n4 : Int)) = false := decide_eq_false (by omega)
      have hiI : (n4 : Int) ≤ (i : Int) := by omega
      rw [hie] at hr1
      clear hie
      go_wp2
      refine bodyPost_end (v := .tuple #[]) (by simp [results, Tryd.results76, go_sem]) rfl ?_
      exact ⟨rfl, hr1, hw1⟩

set_option maxRecDepth 100000 in
set_option maxHeartbeats 2000000 in
theorem start_any (vk vn : Value) (k n : List UInt8) (c : Nat) (C : Int) (hC : C = (c : Int)) (hc : c < 4294967296) (w : World) (hk : Rd w vk k) (hn : Rd w vn n) (hk32 : k.length = 32) (hn12 : n.length = 12) :
    Calls Tryd.prog 65 #[vk, .int .u32 C, vn] w fun e w' => e = .returned (wdV (bkW k c n)) ∧ Below w.heap.size w w' := by
  subst hC
  have HK : Hid (Rd w vk k) := hk
  have HN : Hid (Rd w vn n) := hn
  have HL1 : Hid (k.length / 4 = 8) := by show _ = _; rw [hk32]
  have HL2 : Hid (n.length / 4 = 3) := by show _ = _; rw [hn12]
  have HL3 : Hid (k.length = 32) := hk32
  have HL4 : Hid (n.length = 12) := hn12
  have HE : Hid _ := ly_all k c hc n
  obtain ⟨k8, hk8⟩ : ∃ l : List Nat, l = lyL k16 4 k 8 := ⟨_, rfl⟩
  have h8 : W16 k8 := by rw [hk8]; exact lyL_ok k16_ok _ _ _
  have H8 : Hid _ := hk8
  rw [← hk8] at HE
  have h9 : W16 (k8.set 12 c) := h8.set 12 hc
  have hB : W16 (bkW k c n) := bkW_ok k c n
  generalize bkW k c n = B at HE hB ⊢
  clear hk hn hk32 hn12 hk8
  go_enter Tryd.func65, Tryd.ntmps65
  go_wp2_with (refine wpList_alloc_row (k := .u32) rfl 112 rfl (nI z16) (alloc_wd _) z16_ok.ne (wdMax z16_ok) ?_)
  intro w1 r1 b1 s1
  rw [z16_ok.len] at r1
  go_wp2_with (first | refine wpList_buildB rfl 112 _ rfl _ rfl _ (build_wd _) ?_ | refine wpList_alloc_row (k := .u32) rfl 112 rfl (nI z16) (alloc_wd _) z16_ok.ne (wdMax z16_ok) ?_)
  intro w2 r2 b2 s2
  rw [z16_ok.len] at r2
  replace r1 := r1.kept b2
  have hbw := stepB b1 b2
  have n1 : w.heap.size < w1.heap.size := by have := s1.out; omega
  clear b1 b2 s1 s2
  go_wp2_with (refine wpList_store_row rfl 112 _ _ rfl (nI k16) rfl rfl r2 (by rw [z16_ok.len, k16_ok.len]) (wdInfo z16_ok) ?_)
  intro w3 r3 hw3
  replace r1 := r1.wrote hw3 (by omega)
  replace hbw := hw3.below _ _ (by omega) hbw
  clear r2 hw3
  go_wp2_with fail
  refine (slay_any _ 4 _ rfl vk k k16 k16_ok (by rw [HL1.out]; decide) (by rw [HL3.out]; decide) (by rw [HL3.out]; decide) w w3 HK.out hbw (by omega) r3).mono ?_
  rintro e w4 ⟨rfl, r4, hw4⟩
  rw [HL1.out, ← H8.out] at r4
  replace r1 := r1.wrote hw4 (by omega)
  replace hbw := hw4.below _ _ (by omega) hbw
  clear r3 hw4
  have hc4 := r4.cell (j := 12) (by rw [h8.len]; decide)
  have hf4 := r4.free 12
  have r5 := r4.set 12 (c : Int)
  rw [nI_set] at r5
  have hw5 := Wrote.set w1.heap.size 12 w4 (.int .u32 (c : Int))
  have R5 : Hid _ := r5
  have R1 : Hid _ := r1.wrote hw5 (by omega)
  have HB5 : Hid _ := hw5.below _ _ (Nat.le_of_lt n1) hbw
  clear r5 hw5 r1 hbw
  go_wp2_with fail
  clear hc4 hf4 r4
  generalize w4.setCell ⟨w1.heap.size, 12, none⟩ (.int .u32 (c : Int)) = w5 at R5 R1 HB5 ⊢
  refine (slay_any _ 13 _ rfl vn n (k8.set 12 c) h9 (by rw [HL2.out]; decide) (by rw [HL4.out]; decide) (by rw [HL4.out]; decide) w w5 HN.out HB5.out (by omega) R5.out).mono ?_
  rintro e w6 ⟨rfl, r6, hw6⟩
  rw [HL2.out, HE.out] at r6
  have r1 := R1.out.wrote hw6 (by omega)
  have hbw := hw6.below _ _ (by omega) HB5.out
  clear R1 R5 HB5 hw6
  go_wp2_with (first | refine wpList_load_row rfl 112 _ rfl rfl r6 _ Tryd.underlying112 rfl (wdInfo hB) ?_ | (refine wpList_store_row rfl 112 _ _ rfl (nI B) rfl rfl r1 (by rw [z16_ok.len, hB.len]) (wdInfo z16_ok) ?_; intro w7 r7 hw7))
  refine bodyPost_row (k := .u32) rfl rfl rfl r7 Tryd.underlying112 rfl (wdInfo hB) ?_
  exact ⟨rfl, hw7.below _ _ (Nat.le_refl _) hbw⟩
end Go.Proofs.YtliiofjcghdjoaaDoor

/- What a state is after all its turns: a contract of package chacha, third part. -/
namespace Go.Proofs.YtliiofjcghdjoaaDoor
open Go.ChangeShapes Go.WideShapes Go.ChangeAt Go.RowKit
set_option linter.unusedSimpArgs false
set_option linter.unusedVariables false

/-- The places of the words that go into each quarter round. -/
def plL : List Nat := [0, 4, 8, 12, 1, 5, 9, 13, 2, 6, 10, 14, 3, 7, 11, 15, 0, 5, 10, 15, 1, 6, 11, 12, 2, 7, 8, 13, 3, 4, 9, 14]
/-- The table lies where the program laid it. -/
def PlT (w : World) : Prop := ∀ i, i < 32 → w.cell? ⟨0, i, none⟩ = some (.int .i64 ((plL.getD i 0 : Nat) : Int))
theorem PlT.kept {w w' : World} (h : PlT w) (hb : Below w.heap.size w w') : PlT w' := fun i hi => by
  rw [hb.cell (p := ⟨0, i, none⟩) (World.block_lt_of_cell? w _ (h i hi))]
  exact h i hi
/-- So many quarter rounds of the table. -/
def qEi (v : List Nat) : Nat → List Nat
  | 0 => v
  | k + 1 => qAt (qEi v k) (plL.getD (k * 4) 0) (plL.getD (k * 4 + 1) 0) (plL.getD (k * 4 + 2) 0) (plL.getD (k * 4 + 3) 0)
theorem qEi_ok {v : List Nat} (h : W16 v) : ∀ k, W16 (qEi v k)
  | 0 => h
  | k + 1 => qAt_ok (qEi_ok h k) _ _ _ _
theorem qEi_eight (v : List Nat) : qEi v 8 = qDia (qCol v 4) 4 := rfl
theorem pl_lt : ∀ i, i < 32 → plL.getD i 0 < 16 := by decide

set_option maxRecDepth 100000 in
set_option maxHeartbeats 4000000 in
theorem mixed_any (A : Array Value) (l : List Nat) (hl : W16 l) (hA : A = ((nI l).map (Value.int .u32)).toArray) (w : World) (hT : PlT w) :
    Calls Tryd.prog 77 #[.agg A] w fun e w' => e = .returned (wdV (qDbl l 10)) ∧ Below w.heap.size w w' := by
  have HT : Hid (PlT w) := hT
  have HW : Hid (W16 l) := hl
  go_enter Tryd.func77, Tryd.ntmps77
  go_wp2_with (refine wpList_box_row (k := .u32) rfl 112 _ rfl (nI l) (by rw [← hA]; rfl) hl.ne (wdMax hl) ?_)
  intro w1 r1 b1 s1
  rw [hl.len] at r1
  go_wp2_with (refine wpList_alloc_row (k := .u32) rfl 112 rfl (nI z16) (alloc_wd _) z16_ok.ne (wdMax z16_ok) ?_)
  intro w2 r2 b2 s2
  rw [z16_ok.len] at r2
  replace r1 := r1.kept b2
  have hbw := stepB b1 b2
  have n1 : w.heap.size < w1.heap.size := by have := s1.out; omega
  clear b1 b2 s1 s2 hl hT hA
  go_wp2
  go_loopw [8] (fun iv wx => ∃ i : Nat, i ≤ 10 ∧ iv = .int .i64 (i : Int) ∧ RowAt .u32 112 w.heap.size 16 (nI (qDbl l i)) wx ∧ RowAt .u32 112 w1.heap.size 16 (nI z16) wx ∧ Below w.heap.size w wx) (fun iv _ => 10 - (intOf iv).toNat)
  case atStart => exact ⟨0, by omega, rfl, r1, r2, hbw⟩
  case round =>
    obtain ⟨i, hi, rfl, ra, rz, hbx⟩ := hrel
    clear r1 r2 hbw
    by_cases hlt : i < 10
    · have hd : decide ((i : Int) < 10) = true := decide_eq_true (by omega)
      have hiI : (i : Int) < 10 := by omega
      have ra0 : RowAt .u32 112 w.heap.size 16 (nI (qEi (qDbl l i) 0)) wr := ra
      clear ra
      go_wp2
      go_loopw [10] (fun kv wx => ∃ k : Nat, k ≤ 8 ∧ kv = .int .i64 (k : Int) ∧ RowAt .u32 112 w.heap.size 16 (nI (qEi (qDbl l i) k)) wx ∧ RowAt .u32 112 w1.heap.size 16 (nI z16) wx ∧ Below w.heap.size w wx) (fun kv _ => 8 - (intOf kv).toNat)
      case atStart => exact ⟨0, by omega, rfl, ra0, rz, hbx⟩
      case round =>
        obtain ⟨k, hk, rfl, ra, rz', hbx'⟩ := hrel
        clear ra0 rz hbx
        by_cases hltk : k < 8
        · have hdk : decide ((k : Int) < 8) = true := decide_eq_true (by omega)
          have hkI : (k : Int) < 8 := by omega
          have HT1 : PlT wr := HT.out.kept hbx'
          have t0 := HT1 (k * 4) (by omega)
          have t1 := HT1 (k * 4 + 1) (by omega)
          have t2 := HT1 (k * 4 + 2) (by omega)
          have t3 := HT1 (k * 4 + 3) (by omega)
          have p0 := pl_lt (k * 4) (by omega)
          have p1 := pl_lt (k * 4 + 1) (by omega)
          have p2 := pl_lt (k * 4 + 2) (by omega)
          have p3 := pl_lt (k * 4 + 3) (by omega)
          have HV : Hid (W16 (qEi (qDbl l i) k)) := qEi_ok (qDbl_ok HW.out i) k
          have HNext : Hid (qAt (qEi (qDbl l i) k) (plL.getD (k * 4) 0) (plL.getD (k * 4 + 1) 0) (plL.getD (k * 4 + 2) 0) (plL.getD (k * 4 + 3) 0) = qEi (qDbl l i) (k + 1)) := by show _ = _; rfl
          generalize plL.getD (k * 4) 0 = y0 at t0 p0 HNext
          generalize plL.getD (k * 4 + 1) 0 = y1 at t1 p1 HNext
          generalize plL.getD (k * 4 + 2) 0 = y2 at t2 p2 HNext
          generalize plL.getD (k * 4 + 3) 0 = y3 at t3 p3 HNext
          generalize qEi (qDbl l i) k = V at ra HV HNext
          go_wp2_with fail
          go_quiet (fail)
          have bq := below_drewN (Below.refl wr.heap.size wr) nq
          replace ra := ra.kept bq
          replace rz' := rz'.kept bq
          replace hbx' := stepB hbx' bq
          clear t0 t1 t2 t3 HT1 bq
          go_wp2_with fail
          generalize wr.drewN nq = wq at ra rz' hbx' ⊢
          have hlV : (nI V).length = 16 := HV.out.len
          have c0 := ra.cell (j := y0) (by omega)
          have c1 := ra.cell (j := y1) (by omega)
          have c2 := ra.cell (j := y2) (by omega)
          have c3 := ra.cell (j := y3) (by omega)
          rw [nI_get] at c0 c1 c2 c3
          have HlV : Hid _ := hlV
          have q0 : (y0 : Int) < 16 := by omega
          have q1 : (y1 : Int) < 16 := by omega
          have q2 : (y2 : Int) < 16 := by omega
          have q3 : (y3 : Int) < 16 := by omega
          clear hlV
          have hB : Below wq.heap.size wq wq.drew := (Below.refl _ _).drew
          refine wpF_begin 23 (w0 := wq) (by kernel_rfl) ?_
          refine fP_ (.inr hB) 0 rfl ⟨_, by intro W; go_simp <;> with_reducible rfl, ?_⟩
          try simp only [Act.put, pA_, pB_, pC_]
          refine fP_ (.inr hB) 1 rfl ⟨_, by intro W; go_simp <;> with_reducible rfl, ?_⟩
          try simp only [Act.put, pA_, pB_, pC_]
          refine fP_ (.inr hB) 2 rfl ⟨_, by intro W; go_simp <;> with_reducible rfl, ?_⟩
          try simp only [Act.put, pA_, pB_, pC_]
          refine fP_ (.inr hB) 3 rfl ⟨_, by intro W; go_simp <;> with_reducible rfl, ?_⟩
          try simp only [Act.put, pA_, pB_, pC_]
          refine fP_ (.inr hB) 4 rfl ⟨_, by intro W; go_simp <;> with_reducible rfl, ?_⟩
          try simp only [Act.put, pA_, pB_, pC_]
          refine fP_ (.inr hB) 5 rfl ⟨_, by intro W; go_simp <;> with_reducible rfl, ?_⟩
          try simp only [Act.put, pA_, pB_, pC_]
          refine fU_ hB 6 rfl ⟨_, by intro W hW; have hcW := cellK0 c0 hW; go_simp <;> with_reducible rfl, ?_⟩
          try simp only [Act.put, pA_, pB_, pC_]
          refine fP_ (.inr hB) 7 rfl ⟨_, by intro W; go_simp <;> with_reducible rfl, ?_⟩
          try simp only [Act.put, pA_, pB_, pC_]
          refine fP_ (.inr hB) 8 rfl ⟨_, by intro W; go_simp <;> with_reducible rfl, ?_⟩
          try simp only [Act.put, pA_, pB_, pC_]
          refine fU_ hB 9 rfl ⟨_, by intro W hW; have hcW := cellK0 c1 hW; go_simp <;> with_reducible rfl, ?_⟩
          try simp only [Act.put, pA_, pB_, pC_]
          refine fP_ (.inr hB) 10 rfl ⟨_, by intro W; go_simp <;> with_reducible rfl, ?_⟩
          try simp only [Act.put, pA_, pB_, pC_]
          refine fP_ (.inr hB) 11 rfl ⟨_, by intro W; go_simp <;> with_reducible rfl, ?_⟩
          try simp only [Act.put, pA_, pB_, pC_]
          refine fU_ hB 12 rfl ⟨_, by intro W hW; have hcW := cellK0 c2 hW; go_simp <;> with_reducible rfl, ?_⟩
          try simp only [Act.put, pA_, pB_, pC_]
          refine fP_ (.inr hB) 13 rfl ⟨_, by intro W; go_simp <;> with_reducible rfl, ?_⟩
          try simp only [Act.put, pA_, pB_, pC_]
          refine fP_ (.inr hB) 14 rfl ⟨_, by intro W; go_simp <;> with_reducible rfl, ?_⟩
          try simp only [Act.put, pA_, pB_, pC_]
          refine fU_ hB 15 rfl ⟨_, by intro W hW; have hcW := cellK0 c3 hW; go_simp <;> with_reducible rfl, ?_⟩
          try simp only [Act.put, pA_, pB_, pC_]
          refine fD_ 16 fun K hK => ?_
          go_simp
          refine (quarter_any (q4 V y0 y1 y2 y3) (q4_ok HV.out y0 y1 y2 y3) _ _ _ _ rfl rfl rfl rfl _).mono ?_
          rintro e w5 ⟨rfl, rfl⟩
          have r5 := ra.drew
          refine hK.out _ _ (.inr hB) ?_
          clear hK K
          try simp only [Act.put, pA_, pB_, pC_]
          refine fP_ (.inr hB) 17 rfl ⟨_, by intro W; go_simp <;> with_reducible rfl, ?_⟩
          try simp only [Act.put, pA_, pB_, pC_]
          refine fP_ (.inr hB) 18 rfl ⟨_, by intro W; go_simp <;> with_reducible rfl, ?_⟩
          try simp only [Act.put, pA_, pB_, pC_]
          refine fP_ (.inr hB) 19 rfl ⟨_, by intro W; go_simp <;> with_reducible rfl, ?_⟩
          try simp only [Act.put, pA_, pB_, pC_]
          refine fP_ (.inr hB) 20 rfl ⟨_, by intro W; go_simp <;> with_reducible rfl, ?_⟩
          try simp only [Act.put, pA_, pB_, pC_]
          refine fP_ (.inr hB) 21 rfl ⟨_, by intro W; go_simp <;> with_reducible rfl, ?_⟩
          try simp only [Act.put, pA_, pB_, pC_]
          refine fP_ (.inr hB) 22 rfl ⟨_, by intro W; go_simp <;> with_reducible rfl, ?_⟩
          try simp only [Act.put, pA_, pB_, pC_]
          refine fD_ 23 fun K hK => ?_
          refine wp_store_at _ _ (by rfl) (by rfl) _ (by rfl) r5 (by rw [HlV.out]; exact p0) ?_
          intro w6 r6 hw6
          rw [nI_set] at r6
          refine hK.out _ _ (.inl rfl) ?_
          clear hK K
          try simp only [Act.put, pA_, pB_, pC_]
          refine fP_ (.inl (by kernel_rfl)) 24 rfl ⟨_, by intro W; go_simp <;> with_reducible rfl, ?_⟩
          try simp only [Act.put, pA_, pB_, pC_]
          refine fM_ 25 fun K hK => ?_
          refine wp_store_at _ _ (by rfl) (by rfl) _ (by rfl) r6 (by simp only [nI_length, List.length_set]; rw [HV.out.1]; exact p1) ?_
          intro w7 r7 hw7
          rw [nI_set] at r7
          refine hK.out _ _ ?_
          clear hK K
          try simp only [Act.put, pA_, pB_, pC_]
          refine fP_ (.inl (by kernel_rfl)) 26 rfl ⟨_, by intro W; go_simp <;> with_reducible rfl, ?_⟩
          try simp only [Act.put, pA_, pB_, pC_]
          refine fM_ 27 fun K hK => ?_
          refine wp_store_at _ _ (by rfl) (by rfl) _ (by rfl) r7 (by simp only [nI_length, List.length_set]; rw [HV.out.1]; exact p2) ?_
          intro w8 r8 hw8
          rw [nI_set] at r8
          refine hK.out _ _ ?_
          clear hK K
          try simp only [Act.put, pA_, pB_, pC_]
          refine fP_ (.inl (by kernel_rfl)) 28 rfl ⟨_, by intro W; go_simp <;> with_reducible rfl, ?_⟩
          try simp only [Act.put, pA_, pB_, pC_]
          refine fM_ 29 fun K hK => ?_
          refine wp_store_at _ _ (by rfl) (by rfl) _ (by rfl) r8 (by simp only [nI_length, List.length_set]; rw [HV.out.1]; exact p3) ?_
          intro w9 r9 hw9
          rw [nI_set] at r9
          refine hK.out _ _ ?_
          clear hK K
          try simp only [Act.put, pA_, pB_, pC_]
          refine wpF_done (by kernel_rfl) ?_
          have hws := (((hw6.trans hw7).trans hw8).trans hw9).ofdrew
          have r10 : RowAt .u32 112 w.heap.size 16 (nI (qEi (qDbl l i) (k + 1))) w9 := by
            rw [← HNext.out]
            exact r9
          have rz10 := rz'.wrote hws (by omega)
          have hb10 := hws.below _ _ (Nat.le_refl _) hbx'
          clear ra rz' hbx' c0 c1 c2 c3 r5 r6 r7 r8 r9 hw6 hw7 hw8 hw9 hws hB
          go_wp2
          go_roundw
          case rel => exact ⟨k + 1, by omega, by go_num, r10, rz10, hb10⟩
          case measure => simp [intOf] <;> omega
        · have hke : k = 8 := by omega
          have hdk : decide ((k : Int) < 8) = false := decide_eq_false (by omega)
          have hkI : (8 : Int) ≤ (k : Int) := by omega
          have r10 : RowAt .u32 112 w.heap.size 16 (nI (qDbl l (i + 1))) wr := by
            rw [hke, qEi_eight] at ra
            exact ra
          clear ra hke
          go_wp2
          go_roundw
          case rel => exact ⟨i + 1, by omega, by go_num, r10, rz', hbx'⟩
          case measure => simp [intOf] <;> omega
    · have hie : i = 10 := by omega
      have hd : decide ((i : Int) < 10) = false := decide_eq_false (by omega)
      have hiI : (10 : Int) ≤ (i : Int) := by omega
      have hB : W16 (qDbl l 10) := qDbl_ok HW.out 10
      rw [hie] at ra
      clear hie
      obtain ⟨B, hBe⟩ : ∃ B : List Nat, B = qDbl l 10 := ⟨_, rfl⟩
      rw [← hBe] at ra hB
      have HBe : Hid _ := hBe
      clear hBe
      go_wp2_with (first | refine wpList_load_row rfl 112 _ rfl rfl ra _ Tryd.underlying112 rfl (wdInfo hB) ?_ | (refine wpList_store_row rfl 112 _ _ rfl (nI B) rfl rfl rz (by rw [z16_ok.len, hB.len]) (wdInfo z16_ok) ?_; intro w7 r7 hw7))
      refine bodyPost_row (k := .u32) rfl rfl rfl r7 Tryd.underlying112 rfl (wdInfo hB) ?_
      exact ⟨by rw [HBe.out], hw7.below _ _ (by omega) hbx⟩
end Go.Proofs.YtliiofjcghdjoaaDoor

/- What sums, differences and products of words answer, and a + w b in four words: contracts of package field, first part. -/
namespace Go.Proofs.YtliiofjcghdjoaaDoor
open Go.ChangeShapes Go.WideShapes Go.ChangeAt Go.RowKit
set_option linter.unusedSimpArgs false
set_option linter.unusedVariables false

/-! ### The machine's sums -/
/-- The model's entry for differences with a borrow. -/
def subEntry : Array Value → Sem Value := fun args => do
  let (x, y, b) ← Extern.MathBitsCarry.three "Sub64" args
  pure (Extern.MathBitsCarry.pair ((x + Extern.MathBitsCarry.m64 - y - b) % Extern.MathBitsCarry.m64) (if x < y + b then 1 else 0))
theorem run_subEntry {P : Program} (x y b : Nat) (hb : b ≤ 1) (w : World) :
    (subEntry #[.int .u64 x, .int .u64 y, .int .u64 b]).run P w = .ok (.tuple #[.int .u64 (((x + 18446744073709551616 - y - b) % 18446744073709551616 : Nat) : Int), .int .u64 ((if x < y + b then 1 else 0 : Nat) : Int)]) w := by
  have : b = 0 ∨ b = 1 := by omega
  rcases this with rfl | rfl <;> rfl

theorem add64_run (x y : Nat) : ∃ s c : Nat, s < 18446744073709551616 ∧ s + 18446744073709551616 * c = x + y ∧
    ∀ w : World, (callFunc 89 #[.int .u64 (x : Int), .int .u64 (y : Int), .int .u64 0]).run Tryd.prog w = .ok (.value (.tuple #[.int .u64 (s : Int), .int .u64 (c : Int)])) w := by
  refine ⟨(x + y) % 18446744073709551616, (x + y) / 18446744073709551616, Nat.mod_lt _ (by decide), Nat.mod_add_div _ _, fun w => ?_⟩
  rw [run_callFunc_extern Tryd.func89 (by kernel_rfl) (by kernel_rfl) (by kernel_rfl) (e := add64Entry) (by kernel_rfl), run_add64 _ _ 0 (by omega) (by omega) (by omega) (by omega)]
  simp only [Result.andThen]
  congr 5 <;> omega

theorem mask32 (x : Nat) (hx : x < 18446744073709551616) : bits .and .u64 (x : Int) 4294967295 = ((x % 4294967296 : Nat) : Int) := by
  have := u64_and_nat x 4294967295 hx (by decide)
  rw [show (4294967295 : Int) = ((4294967295 : Nat) : Int) from rfl, this, show (4294967295 : Nat) = 2 ^ 32 - 1 from rfl, Nat.and_two_pow_sub_one_eq_mod]

theorem mask63 (x : Nat) (hx : x < 18446744073709551616) : bits .and .u64 (x : Int) 9223372036854775807 = ((x % 9223372036854775808 : Nat) : Int) := by
  have := u64_and_nat x 9223372036854775807 hx (by decide)
  rw [show (9223372036854775807 : Int) = ((9223372036854775807 : Nat) : Int) from rfl, this, show (9223372036854775807 : Nat) = 2 ^ 63 - 1 from rfl, Nat.and_two_pow_sub_one_eq_mod]

theorem wrapN (n : Nat) (h : n < 18446744073709551616) : IntKind.u64.wrap (n : Int) = (n : Int) := by rw [IntKind.wrap_u64]; omega
theorem wrapM (a b n : Nat) (hn : n = a * b) (h : n < 18446744073709551616) : IntKind.u64.wrap ((a : Int) * (b : Int)) = (n : Int) := by
  rw [← Int.natCast_mul, ← hn]
  exact wrapN n h
theorem wrapA (a b n : Nat) (hn : n = a + b) (h : n < 18446744073709551616) : IntKind.u64.wrap ((a : Int) + (b : Int)) = (n : Int) := by
  rw [← Int.natCast_add, ← hn]
  exact wrapN n h

set_option maxHeartbeats 1000000 in
theorem mul64_any (x y : Nat) (hx : x < 18446744073709551616) (hy : y < 18446744073709551616) (w : World) :
    Calls Tryd.prog 92 #[.int .u64 (x : Int), .int .u64 (y : Int)] w fun e w' => (∃ hi lo : Nat, e = .returned (.tuple #[.int .u64 (hi : Int), .int .u64 (lo : Int)]) ∧ hi < 18446744073709551616 ∧ lo < 18446744073709551616 ∧ lo + 18446744073709551616 * hi = x * y) ∧ w' = w := by
  obtain ⟨h1, h2, h3, h4⟩ := Lib.mul64_hi x y hx hy
  have hlt : x * y / 18446744073709551616 < 18446744073709551616 := by
    have : x * y < 18446744073709551616 * 18446744073709551616 := Nat.mul_lt_mul'' hx hy
    omega
  obtain ⟨x0, hx0⟩ : ∃ n : Nat, n = x % 4294967296 := ⟨_, rfl⟩
  obtain ⟨x1, hx1⟩ : ∃ n : Nat, n = x / 4294967296 := ⟨_, rfl⟩
  obtain ⟨y0, hy0⟩ : ∃ n : Nat, n = y % 4294967296 := ⟨_, rfl⟩
  obtain ⟨y1, hy1⟩ : ∃ n : Nat, n = y / 4294967296 := ⟨_, rfl⟩
  rw [← hx0, ← hy0] at h1
  rw [← hx0, ← hy0, ← hx1] at h2
  rw [← hx0, ← hy0, ← hx1, ← hy1] at h3 h4
  obtain ⟨p, hp⟩ : ∃ n : Nat, n = x0 * y0 := ⟨_, rfl⟩
  obtain ⟨p1, hp1⟩ : ∃ n : Nat, n = p / 4294967296 := ⟨_, rfl⟩
  obtain ⟨q, hq⟩ : ∃ n : Nat, n = x1 * y0 := ⟨_, rfl⟩
  obtain ⟨t, ht⟩ : ∃ n : Nat, n = q + p1 := ⟨_, rfl⟩
  obtain ⟨t0, ht0⟩ : ∃ n : Nat, n = t % 4294967296 := ⟨_, rfl⟩
  obtain ⟨t1, ht1⟩ : ∃ n : Nat, n = t / 4294967296 := ⟨_, rfl⟩
  obtain ⟨r, hr⟩ : ∃ n : Nat, n = x0 * y1 := ⟨_, rfl⟩
  obtain ⟨u, hu⟩ : ∃ n : Nat, n = t0 + r := ⟨_, rfl⟩
  obtain ⟨u1, hu1⟩ : ∃ n : Nat, n = u / 4294967296 := ⟨_, rfl⟩
  obtain ⟨s, hs⟩ : ∃ n : Nat, n = x1 * y1 := ⟨_, rfl⟩
  obtain ⟨v, hv⟩ : ∃ n : Nat, n = s + t1 := ⟨_, rfl⟩
  obtain ⟨H, hH⟩ : ∃ n : Nat, n = v + u1 := ⟨_, rfl⟩
  obtain ⟨L, hL⟩ : ∃ n : Nat, n = x * y % 18446744073709551616 := ⟨_, rfl⟩
  rw [← hp] at h1
  rw [← hp, ← hq, ← hp1, ← ht] at h2
  rw [← hp, ← hq, ← hp1, ← ht, ← ht0, ← hr, ← hu] at h3
  rw [← hp, ← hq, ← hp1, ← ht, ← ht0, ← ht1, ← hr, ← hu, ← hu1, ← hs, ← hv, ← hH] at h4
  have e1 : bits .and .u64 (x : Int) 4294967295 = (x0 : Int) := by rw [mask32 x hx, hx0]
  have e2 : bits .and .u64 (y : Int) 4294967295 = (y0 : Int) := by rw [mask32 y hy, hy0]
  have e3 : (x : Int) / 4294967296 = (x1 : Int) := by omega
  have e4 : (y : Int) / 4294967296 = (y1 : Int) := by omega
  have e5 : IntKind.u64.wrap ((x0 : Int) * (y0 : Int)) = (p : Int) := wrapM _ _ _ hp h1
  have e6 : IntKind.u64.wrap ((x1 : Int) * (y0 : Int)) = (q : Int) := wrapM _ _ _ hq (by omega)
  have e7 : (p : Int) / 4294967296 = (p1 : Int) := by omega
  have e8 : IntKind.u64.wrap ((q : Int) + (p1 : Int)) = (t : Int) := wrapA _ _ _ ht h2
  have e9 : bits .and .u64 (t : Int) 4294967295 = (t0 : Int) := by rw [mask32 t h2, ht0]
  have e10 : (t : Int) / 4294967296 = (t1 : Int) := by omega
  have e11 : IntKind.u64.wrap ((x0 : Int) * (y1 : Int)) = (r : Int) := wrapM _ _ _ hr (by omega)
  have e12 : IntKind.u64.wrap ((t0 : Int) + (r : Int)) = (u : Int) := wrapA _ _ _ hu h3
  have e13 : IntKind.u64.wrap ((x1 : Int) * (y1 : Int)) = (s : Int) := wrapM _ _ _ hs (by omega)
  have e14 : IntKind.u64.wrap ((s : Int) + (t1 : Int)) = (v : Int) := wrapA _ _ _ hv (by omega)
  have e15 : (u : Int) / 4294967296 = (u1 : Int) := by omega
  have e16 : IntKind.u64.wrap ((v : Int) + (u1 : Int)) = (H : Int) := wrapA _ _ _ hH (by omega)
  have e17 : IntKind.u64.wrap ((x : Int) * (y : Int)) = (L : Int) := by rw [← Int.natCast_mul, IntKind.wrap_u64]; omega
  have HF : Hid (H < 18446744073709551616 ∧ L < 18446744073709551616 ∧ L + 18446744073709551616 * H = x * y) := ⟨by omega, by omega, by omega⟩
  clear hx hy hlt hx0 hx1 hy0 hy1 h1 h2 h3 h4 hp hp1 hq ht ht0 ht1 hr hu hu1 hs hv hH hL
  go_enter Tryd.func92, Tryd.ntmps92
  go_wp2
  go_ret2
  exact ⟨⟨H, L, rfl, HF.out.1, HF.out.2.1, HF.out.2.2⟩, rfl⟩

theorem cellK {w W : World} {p : Addr} {v : Value} (h : w.cell? p = some v) (hb : Below w.heap.size w W) : W.cell? p = some v := by
  rw [hb.cell (World.block_lt_of_cell? _ _ h)]
  exact h

/-! ### Two results, one or both of them in a block -/
theorem bodyPost_row2 {k : IntKind} {e : TypeId} {g cap : Nat} {l : List Int} {P : Program} {fn : Func} {p q : Tmp} {ty : TypeId} {d : TypeDesc} {v : Value} {R : Ending → World → Prop} {a : Act} {w : World} (h : fn.results = #[.cell p ty, .tmp q]) (hd : a.defers = [])
    (hp : a.tmps.getD p undef = .pointer (some ⟨g, 0, none⟩)) (hq : a.tmps.getD q undef = v) (hr : RowAt k e g cap l w) (hu : P.underlying ty = some d) (hrow : d.isRow = true) (hi : (P.info? ty).map (·.size) = some l.length)
    (hR : R (.returned (.tuple #[.agg (l.map (Value.int k)).toArray, v])) w) : bodyPost P fn R .ret a w := by
  refine bodyPost_ret ?_ hd hR
  have hp' : a.tmps[p]?.getD undef = .pointer (some ⟨g, 0, none⟩) := by simpa using hp
  have hq' : a.tmps[q]?.getD undef = v := by simpa using hq
  have hl := hr.load (P := P) hu hrow hi
  simp [results, h, hp', hq', asAddr, hl]
theorem bodyPost_rows {k : IntKind} {e : TypeId} {g g2 cap cap2 : Nat} {l l2 : List Int} {P : Program} {fn : Func} {p q : Tmp} {ty : TypeId} {d : TypeDesc} {R : Ending → World → Prop} {a : Act} {w : World} (h : fn.results = #[.cell p ty, .cell q ty]) (hd : a.defers = [])
    (hp : a.tmps.getD p undef = .pointer (some ⟨g, 0, none⟩)) (hq : a.tmps.getD q undef = .pointer (some ⟨g2, 0, none⟩)) (hr : RowAt k e g cap l w) (hr2 : RowAt k e g2 cap2 l2 w) (hu : P.underlying ty = some d) (hrow : d.isRow = true) (hi : (P.info? ty).map (·.size) = some l.length) (hi2 : (P.info? ty).map (·.size) = some l2.length)
    (hR : R (.returned (.tuple #[.agg (l.map (Value.int k)).toArray, .agg (l2.map (Value.int k)).toArray])) w) : bodyPost P fn R .ret a w := by
  refine bodyPost_ret ?_ hd hR
  have hp' : a.tmps[p]?.getD undef = .pointer (some ⟨g, 0, none⟩) := by simpa using hp
  have hq' : a.tmps[q]?.getD undef = .pointer (some ⟨g2, 0, none⟩) := by simpa using hq
  have hl := hr.load (P := P) hu hrow hi
  have hl2 := hr2.load (P := P) hu hrow hi2
  simp [results, h, hp', hq', asAddr, hl, hl2]

end Go.Proofs.YtliiofjcghdjoaaDoor

/- Slices of bytes that are cut, in front or behind, wherever they lie. -/
namespace Go.Proofs.YtliiofjcghdjoaaDoor
open Go.ChangeShapes Go.WideShapes Go.ChangeAt Go.RowKit
set_option linter.unusedSimpArgs false
set_option linter.unusedVariables false

theorem exec_head {op : Oper} {a : Act} {W : World} {ab : Option Addr} {L cb m : Nat} (x h : Operand) (ho : op.op = .slice 40 x none (some h) none) (hx : a.eval x = .slice ab L cb) (hh : a.eval h = .int .i64 (m : Int)) (hm : m ≤ L) (hL : L ≤ cb) (hc : cb ≤ maxLen) (hn : ab = none → cb = 0) :
    (execOp a.eval op).run Tryd.prog W = .ok (.value (.slice ab m cb)) W := by
  have h1 : (m : Int) ≤ (cb : Int) := by omega
  unfold maxLen at hc
  unfold execOp
  simp only [ho, hx, hh, Option.map]
  cases ab with
  | none =>
    have := hn rfl
    subst this
    obtain rfl : m = 0 := by omega
    obtain rfl : L = 0 := by omega
    go_simp
  | some y =>
    go_simp
theorem exec_tail {ab : Option Addr} {L cb m : Nat} (hm : m ≤ L) (hL : L ≤ cb) (hc : cb ≤ maxLen) (hn : ab = none → cb = 0) :
    ∃ ab' : Option Addr, (∀ {op : Oper} {a : Act} {W : World} (x h : Operand), op.op = .slice 40 x (some h) none none → a.eval x = .slice ab L cb → a.eval h = .int .i64 (m : Int) → (execOp a.eval op).run Tryd.prog W = .ok (.value (.slice ab' (L - m) (cb - m))) W) ∧
      ∀ (w : World) (b : List UInt8), Rd w (.slice ab L cb) b → Rd w (.slice ab' (L - m) (cb - m)) (b.drop m) := by
  have h1 : (m : Int) ≤ (L : Int) := by omega
  have h2 : (L : Int) ≤ (cb : Int) := by omega
  unfold maxLen at hc
  cases ab with
  | none =>
    have := hn rfl
    subst this
    obtain rfl : L = 0 := by omega
    obtain rfl : m = 0 := by omega
    refine ⟨none, fun x h ho hx hh => ?_, fun w b hb => hb⟩
    unfold execOp
    simp only [ho, hx, hh, Option.map]
    go_simp
  | some y =>
    by_cases hcm : cb = m
    · refine ⟨some y, fun x h ho hx hh => ?_, fun w b hb => ?_⟩
      · unfold execOp
        simp only [ho, hx, hh, Option.map]
        go_simp
      · obtain ⟨a', c', ev, h3, h4, h5, h6⟩ := hb
        simp only [Value.slice.injEq] at ev
        obtain ⟨rfl, hLb, rfl⟩ := ev
        have h0 : b.drop m = [] := List.drop_eq_nil_of_le (by omega)
        rw [h0, show L - m = 0 by omega, hcm, Nat.sub_self]
        exact ⟨_, 0, rfl, by simp, by simp, fun _ => rfl, .inl rfl⟩
    · refine ⟨some (y.add m), fun x h ho hx hh => ?_, fun w b hb => ?_⟩
      · unfold execOp
        simp only [ho, hx, hh, Option.map]
        go_simp
      · obtain ⟨a', c', ev, h3, h4, h5, h6⟩ := hb
        simp only [Value.slice.injEq] at ev
        obtain ⟨rfl, hLb, rfl⟩ := ev
        refine ⟨_, _, (by rw [List.length_drop, ← hLb]), (by rw [List.length_drop]; omega), (by unfold maxLen; omega), (fun h => by cases h), ?_⟩
        rcases h6 with rfl | ⟨g, off, e, hcell⟩
        · exact .inl (by simp)
        · simp only [Option.some.injEq] at e
          subst e
          refine .inr ⟨g, off + m, by unfold Addr.add; split <;> simp_all, fun i hi => ?_⟩
          rw [List.length_drop] at hi
          rw [Nat.add_assoc, hcell (m + i) (by omega)]
          simp
end Go.Proofs.YtliiofjcghdjoaaDoor

/- Numbers in three words: sums, and what bytes stand for: contracts of package poly, first part. -/
namespace Go.Proofs.YtliiofjcghdjoaaDoor
open Go.ChangeShapes Go.WideShapes Go.ChangeAt Go.RowKit
set_option linter.unusedSimpArgs false
set_option linter.unusedVariables false

/-- Three words as a value. -/
abbrev nmV (l : List Nat) : Value := .agg ((nI l).map (Value.int .u64)).toArray
theorem nmInfo {l : List Nat} (h : Nm3 l) : (Tryd.prog.info? 124).map (·.size) = some (nI l).length := by rw [h.len]; kernel_rfl
theorem nmMax {l : List Nat} (h : Nm3 l) : (nI l).length ≤ maxLen := by rw [h.len]; decide
theorem alloc_nm (w : World) : (Instr.alloc 124 true (.tuple #[])).run Tryd.prog w = .ok (.pointer (some ⟨w.heap.size, 0, none⟩)) (w.alloc (.cells ((nI z3).map (Value.int .u64)).toArray 124)) := by kernel_rfl
/-- The machine's sum with a carry. -/
theorem add64c_run (x y c : Nat) (hx : x < 18446744073709551616) (hy : y < 18446744073709551616) (hc : c ≤ 1) : ∃ s c' : Nat, s < 18446744073709551616 ∧ c' ≤ 1 ∧ s + 18446744073709551616 * c' = x + y + c ∧
    ∀ w : World, (callFunc 89 #[.int .u64 (x : Int), .int .u64 (y : Int), .int .u64 (c : Int)]).run Tryd.prog w = .ok (.value (.tuple #[.int .u64 (s : Int), .int .u64 (c' : Int)])) w := by
  refine ⟨(x + y + c) % 18446744073709551616, (x + y + c) / 18446744073709551616, Nat.mod_lt _ (by decide), by omega, Nat.mod_add_div _ _, fun w => ?_⟩
  rw [run_callFunc_extern Tryd.func89 (by kernel_rfl) (by kernel_rfl) (by kernel_rfl) (e := add64Entry) (by kernel_rfl), run_add64 _ _ _ (by omega) (by omega) (by omega) (by omega)]
  simp only [Result.andThen]
  congr 5 <;> omega
/-- An operation that touches no memory, in a region with one order. -/
theorem wpList_val {P : Program} {ops : Array Oper} {rest : List Oper} {op : Oper} {a : Act} {w : World} {Q : Exit → Act → World → Prop} (hgd : op.guard = none) {v : Value} (hy : (execOp a.eval op).run P w = .ok (.value v) w)
    (h : wpList P ops Q rest (a.put op.dst v) w) : wpList P ops Q (op :: rest) a w := by
  refine wpList_plain hgd fun K hK => ?_
  unfold Oper.wp
  rw [hy]
  exact hK _ _ h

set_option maxRecDepth 100000 in
set_option maxHeartbeats 2000000 in
theorem plus_any (A B : Array Value) (a b : List Nat) (ha : Nm3 a) (hb : Nm3 b) (hs : wv a + wv b < 6277101735386680763835789423207666416102355444464034512896) (hA : A = ((nI a).map (Value.int .u64)).toArray) (hB : B = ((nI b).map (Value.int .u64)).toArray) (w : World) :
    Calls Tryd.prog 80 #[.agg A, .agg B] w fun e w' => ∃ r : List Nat, e = .returned (nmV r) ∧ Nm3 r ∧ wv r = wv a + wv b ∧ Below w.heap.size w w' := by
  have HSum : Hid _ := hs
  clear hs
  go_enter Tryd.func80, Tryd.ntmps80
  go_wp2_with (refine wpList_box_row (k := .u64) rfl 124 _ rfl (nI a) (by rw [← hA]; rfl) ha.ne (nmMax ha) ?_)
  intro w1 r1 b1 s1
  rw [ha.len] at r1
  go_wp2_with (refine wpList_box_row (k := .u64) rfl 124 _ rfl (nI b) (by rw [← hB]; rfl) hb.ne (nmMax hb) ?_)
  intro w2 r2 b2 s2
  rw [hb.len] at r2
  go_wp2_with (refine wpList_alloc_row (k := .u64) rfl 124 rfl (nI z3) (alloc_nm _) z3_nm.ne (nmMax z3_nm) ?_)
  intro w3 r3 b3 s3
  rw [z3_nm.len] at r3
  have hr1 := (r1.kept b2).kept b3
  have hr2 := r2.kept b3
  have hbw := stepB (stepB b1 b2) b3
  have n1 : w.heap.size < w1.heap.size := by have := s1.out; omega
  have n2 : w1.heap.size < w2.heap.size := by have := s2.out; omega
  have HA : Hid (Nm3 a) := ha
  have HB : Hid (Nm3 b) := hb
  clear r1 r2 b1 b2 b3 s1 s2 s3 hA hB ha hb
  go_wp2
  go_loopw [7, 5] (fun iv cv wx => ∃ (i o : Nat) (cur : List Nat), i ≤ 3 ∧ iv = .int .i64 (i : Int) ∧ cv = .int .u64 (o : Int) ∧ o ≤ 1 ∧ Hid (Nm3 cur) ∧ Hid (wv cur + 18446744073709551616 ^ i * o = wv a + 1 * wv (b.take i)) ∧
    RowAt .u64 124 w.heap.size 3 (nI cur) wx ∧ RowAt .u64 124 w1.heap.size 3 (nI b) wx ∧ RowAt .u64 124 w2.heap.size 3 (nI z3) wx ∧ Below w.heap.size w wx) (fun iv _ _ => 3 - (intOf iv).toNat)
  case atStart => exact ⟨0, 0, a, by omega, rfl, rfl, by omega, HA, (by show _ = _; rw [Nat.mul_zero, List.take_zero]; rfl), hr1, hr2, r3, hbw⟩
  case round =>
    obtain ⟨i, o, cur, hi, rfl, rfl, ho, HC, HE, ra, rb, rz, hbx⟩ := hrel
    clear hr1 hr2 r3 hbw
    by_cases hlt : i < 3
    · have hd : decide ((i : Int) < 3) = true := decide_eq_true (by omega)
      have hiI : (i : Int) < 3 := by omega
      have hcb := rb.cell (j := i) (by rw [nI_length, HB.out.1]; exact hlt)
      have hca := ra.cell (j := i) (by rw [nI_length, HC.out.1]; exact hlt)
      have hfa := ra.free i
      rw [nI_get] at hcb hca
      have hy := HB.out.get i
      have hq := HC.out.get i
      have HS : Hid (∀ s o' : Nat, s < 18446744073709551616 → s + 18446744073709551616 * o' = cur.getD i 0 + b.getD i 0 + o → Nm3 (cur.set i s) ∧ wv (cur.set i s) + 18446744073709551616 ^ (i + 1) * o' = wv a + 1 * wv (b.take (i + 1))) := by
        intro s o' hs he
        exact ⟨HC.out.set i hs, at_step cur b i o o' s (wv a) 1 (by rw [HC.out.1]; exact hlt) (by rw [HB.out.1]; exact hlt) (by rw [Nat.one_mul]; exact he) HE.out⟩
      have HR : Hid (∀ (W : World) (s : Nat), RowAt .u64 124 w.heap.size 3 (nI cur) W → RowAt .u64 124 w.heap.size 3 (nI (cur.set i s)) (W.setCell ⟨w.heap.size, i, none⟩ (.int .u64 (s : Int)))) := fun W s h => by
        rw [← nI_set]
        exact h.set i _
      have HRb : Hid (∀ (W : World) (u : Value), Below wr.heap.size wr W → RowAt .u64 124 w1.heap.size 3 (nI b) (W.setCell ⟨w.heap.size, i, none⟩ u) ∧ RowAt .u64 124 w2.heap.size 3 (nI z3) (W.setCell ⟨w.heap.size, i, none⟩ u) ∧ Below w.heap.size w (W.setCell ⟨w.heap.size, i, none⟩ u)) := fun W u hW =>
        ⟨(rb.kept hW).other (p := ⟨w.heap.size, i, none⟩) (by show w.heap.size ≠ _; omega) u, (rz.kept hW).other (p := ⟨w.heap.size, i, none⟩) (by show w.heap.size ≠ _; omega) u, (Wrote.set w.heap.size i W u).below _ _ (Nat.le_refl _) (stepB hbx hW)⟩
      generalize b.getD i 0 = y at hcb hy HS
      generalize cur.getD i 0 = q at hca hq HS
      obtain ⟨s2, o2, hs2, ho2, he2, run1⟩ := add64c_run q y o hq hy ho
      obtain ⟨k1, k3⟩ := HS.out s2 o2 hs2 he2
      have K1 : Hid (Nm3 (cur.set i s2)) := k1
      have K3 : Hid _ := k3
      have HRA : Hid _ := ra
      clear rb rz hbx HE k1 k3 HS he2 ra
      go_wp2_with fail
      have hB : Below wr.heap.size wr wr.drew := (Below.refl _ _).drew
      refine wpF_begin 13 (w0 := wr) (by kernel_rfl) ?_
      refine fP_ (.inr hB) 0 rfl ⟨_, by intro W; go_simp <;> with_reducible rfl, ?_⟩
      try simp only [Act.put, pA_, pB_, pC_]
      refine fP_ (.inr hB) 1 rfl ⟨_, by intro W; go_simp <;> with_reducible rfl, ?_⟩
      try simp only [Act.put, pA_, pB_, pC_]
      refine fP_ (.inr hB) 2 rfl ⟨_, by intro W; go_simp <;> with_reducible rfl, ?_⟩
      try simp only [Act.put, pA_, pB_, pC_]
      refine fU_ hB 3 rfl ⟨_, by intro W hW; have hcW := cellK hca hW; go_simp <;> with_reducible rfl, ?_⟩
      try simp only [Act.put, pA_, pB_, pC_]
      refine fP_ (.inr hB) 4 rfl ⟨_, by intro W; go_simp <;> with_reducible rfl, ?_⟩
      try simp only [Act.put, pA_, pB_, pC_]
      refine fP_ (.inr hB) 5 rfl ⟨_, by intro W; go_simp <;> with_reducible rfl, ?_⟩
      try simp only [Act.put, pA_, pB_, pC_]
      refine fU_ hB 6 rfl ⟨_, by intro W hW; have hcW := cellK hcb hW; go_simp <;> with_reducible rfl, ?_⟩
      try simp only [Act.put, pA_, pB_, pC_]
      refine fP_ (.inr hB) 7 rfl ⟨_, by intro W; go_simp <;> with_reducible rfl, ?_⟩
      try simp only [Act.put, pA_, pB_, pC_]
      refine fD_ 8 fun K hK => ?_
      go_simp
      refine hK.out _ _ (.inr hB) ?_
      clear hK K
      try simp only [Act.put, pA_, pB_, pC_]
      refine fP_ (.inr hB) 9 rfl ⟨_, by intro W; go_simp <;> with_reducible rfl, ?_⟩
      try simp only [Act.put, pA_, pB_, pC_]
      refine fP_ (.inr hB) 10 rfl ⟨_, by intro W; go_simp <;> with_reducible rfl, ?_⟩
      try simp only [Act.put, pA_, pB_, pC_]
      refine fP_ (.inr hB) 11 rfl ⟨_, by intro W; go_simp <;> with_reducible rfl, ?_⟩
      try simp only [Act.put, pA_, pB_, pC_]
      refine fP_ (.inr hB) 12 rfl ⟨_, by intro W; go_simp <;> with_reducible rfl, ?_⟩
      try simp only [Act.put, pA_, pB_, pC_]
      refine fD_ 13 fun K hK => ?_
      go_simp
      refine hK.out _ _ (.inl rfl) ?_
      clear hK K
      try simp only [Act.put, pA_, pB_, pC_]
      refine fP_ (.inl (by kernel_rfl)) 14 rfl ⟨_, by intro W; go_simp <;> with_reducible rfl, ?_⟩
      try simp only [Act.put, pA_, pB_, pC_]
      refine wpF_done (by kernel_rfl) ?_
      have hR := HR.out _ s2 HRA.out.drew
      obtain ⟨hRb, hRz, hbn⟩ := HRb.out _ (.int .u64 (s2 : Int)) hB
      go_wp2
      go_roundw
      case rel => exact ⟨i + 1, o2, cur.set i s2, by omega, by go_num, rfl, ho2, K1, K3, hR, hRb, hRz, hbn⟩
      case measure => simp [intOf] <;> omega
    · have hie : i = 3 := by omega
      have hd : decide ((i : Int) < 3) = false := decide_eq_false (by omega)
      have hiI : (3 : Int) ≤ (i : Int) := by omega
      have HE2 : Hid (wv cur = wv a + wv b) := by
        have := HE.out
        rw [hie, List.take_of_length_le (by rw [HB.out.1]; exact Nat.le_refl _), Nat.one_mul] at this
        have h2 := HSum.out
        show _ = _
        omega
      clear HE hie
      go_wp2_with (first | refine wpList_load_row rfl 124 _ rfl rfl ra _ Tryd.underlying124 rfl (nmInfo HC.out) ?_ | (refine wpList_store_row rfl 124 _ _ rfl (nI cur) rfl rfl rz (by rw [z3_nm.len, HC.out.len]) (nmInfo z3_nm) ?_; intro w6 r6 hw6))
      refine bodyPost_row (p := 4) (ty := 124) rfl rfl rfl r6 Tryd.underlying124 rfl (nmInfo HC.out) ?_
      exact ⟨cur, rfl, HC.out, HE2.out, hw6.below _ _ (by omega) hbx⟩

set_option maxRecDepth 100000 in
set_option maxHeartbeats 2000000 in
theorem numberOf_any (vb : Value) (b : List UInt8) (w : World) (hr : Rd w vb b) (hb24 : b.length ≤ 24) :
    Calls Tryd.prog 78 #[vb] w fun e w' => ∃ r : List Nat, e = .returned (nmV r) ∧ Nm3 r ∧ wv r = leN b ∧ Below w.heap.size w w' := by
  obtain ⟨ab, cb, rfl, hcb, hmb, hnone, -⟩ := id hr
  obtain ⟨L, hL⟩ : ∃ L : Nat, L = b.length := ⟨_, rfl⟩
  rw [← hL] at hcb hb24 hr ⊢
  have HRb : Hid (Rd w (.slice ab L cb) b) := hr
  have HL : Hid _ := hL
  have HN : Hid (ab = none → cb = 0) := hnone
  have HM : Hid (cb ≤ maxLen) := hmb
  have hmb2 := hmb
  unfold maxLen at hmb2
  clear hr hL hnone hmb
  go_enter Tryd.func78, Tryd.ntmps78
  go_wp2_with (refine wpList_alloc_row (k := .u64) rfl 124 rfl (nI z3) (alloc_nm _) z3_nm.ne (nmMax z3_nm) ?_)
  intro w1 r1 b1 s1
  rw [z3_nm.len] at r1
  go_wp2_with (refine wpList_alloc_row (k := .u64) rfl 124 rfl (nI z3) (alloc_nm _) z3_nm.ne (nmMax z3_nm) ?_)
  intro w2 r2 b2 s2
  rw [z3_nm.len] at r2
  have n1 : w.heap.size < w1.heap.size := by have := s1.out; omega
  replace r1 := r1.kept b2
  have hbw := stepB b1 b2
  clear b1 b2 s1 s2
  go_wp2
  go_loopw [5] (fun iv wx => ∃ (i : Nat) (cur : List Nat), i ≤ 3 ∧ iv = .int .i64 (i : Int) ∧ Hid (Nm3 cur) ∧ Hid (wv cur = leN (b.take (8 * i))) ∧ Hid (∀ j, i ≤ j → cur.getD j 0 = 0) ∧ RowAt .u64 124 w.heap.size 3 (nI z3) wx ∧ RowAt .u64 124 w1.heap.size 3 (nI cur) wx ∧ Below w.heap.size w wx) (fun iv _ => 3 - (intOf iv).toNat)
  case atStart => exact ⟨0, z3, by omega, rfl, z3_nm, (by show _ = _; rw [z3_wv]; rfl), (fun j _ => z3_get j), r1, r2, hbw⟩
  case round =>
    obtain ⟨i, cur, hi, rfl, HC, HV, HZ, rz, rc, hbx⟩ := hrel
    clear r1 r2 hbw
    by_cases hlt : i < 3
    · have hd : decide ((i : Int) < 3) = true := decide_eq_true (by omega)
      have hiI : (i : Int) < 3 := by omega
      obtain ⟨m, hm⟩ : ∃ m : Nat, m = min (8 * i) L := ⟨_, rfl⟩
      obtain ⟨ab', htail, hrest⟩ := exec_tail (ab := ab) (m := m) (by omega) hcb HM.out HN.out
      have hrd := hrest _ _ (Rd.kept HRb.out hbx)
      have hfc := rc.free i
      have hcc := rc.cell (j := i) (by rw [HC.out.len]; exact hlt)
      obtain ⟨z, hz⟩ : ∃ z : Nat, z = leN ((b.drop m).take 8) := ⟨_, rfl⟩
      have hld := load_any _ _ _ hrd
      rw [← hz] at hld
      have HLD : Hid (Calls Tryd.prog 87 #[.slice ab' (L - m) (cb - m)] wr fun e w' => e = .returned (.int .u64 (z : Int)) ∧ w' = wr) := hld
      have HS : Hid (Nm3 (cur.set i z) ∧ wv (cur.set i z) = leN (b.take (8 * (i + 1))) ∧ ∀ j, i + 1 ≤ j → (cur.set i z).getD j 0 = 0) := by
        refine ⟨HC.out.set i (by rw [hz]; exact leN_take_lt _ 8 (by omega)), num_step b cur i z (by rw [HC.out.1]; exact hlt) (HZ.out i (Nat.le_refl _)) HV.out (by rw [hz, hm, HL.out]), fun j hj => ?_⟩
        have := HZ.out j (by omega)
        rw [List.getD_eq_getElem?_getD, List.getElem?_set_ne (by omega), ← List.getD_eq_getElem?_getD]
        exact this
      have rc2 := rc.set i (z : Int)
      rw [nI_set] at rc2
      have rz2 := rz.other (p := ⟨w1.heap.size, i, none⟩) (by show w1.heap.size ≠ _; omega) (.int .u64 (z : Int))
      have hb2 := (Wrote.set w1.heap.size i wr (.int .u64 (z : Int))).below _ _ (by omega) hbx
      obtain ⟨m8, hm8⟩ : ∃ m : Nat, m = 8 * i := ⟨_, rfl⟩
      have x1 : IntKind.i64.wrap (8 * (i : Int)) = (m8 : Int) := by rw [show 8 * (i : Int) = (m8 : Int) by omega]; exact IntWalk.i64_in _ (by omega)
      have hmin : (if L < m8 then (L : Int) else (m8 : Int)) = (m : Int) := by split <;> omega
      have HT : Hid _ := @htail
      clear hz hld hrest hrd rz rc hbx HV HZ hm hm8 htail
      go_wp2_with (refine wpList_val rfl (HT.out _ _ rfl rfl rfl) ?_)
      refine Calls.mono HLD.out ?_
      rintro e w5 ⟨rfl, rfl⟩
      go_wp2
      go_roundw
      case rel => exact ⟨i + 1, cur.set i z, by omega, by go_num, HS.out.1, HS.out.2.1, HS.out.2.2, rz2, rc2, hb2⟩
      case measure => simp [intOf] <;> omega
    · have hie : i = 3 := by omega
      have hd : decide ((i : Int) < 3) = false := decide_eq_false (by omega)
      have hiI : (3 : Int) ≤ (i : Int) := by omega
      have HE2 : Hid (wv cur = leN b) := num_full b cur (by rw [HV.out, hie]) (by rw [← HL.out]; exact hb24)
      clear HV hie
      go_wp2_with (first | refine wpList_load_row rfl 124 _ rfl rfl rc _ Tryd.underlying124 rfl (nmInfo HC.out) ?_ | (refine wpList_store_row rfl 124 _ _ rfl (nI cur) rfl rfl rz (by rw [z3_nm.len, HC.out.len]) (nmInfo z3_nm) ?_; intro w6 r6 hw6))
      refine bodyPost_row (p := 2) (ty := 124) rfl rfl rfl r6 Tryd.underlying124 rfl (nmInfo HC.out) ?_
      exact ⟨cur, rfl, HC.out, HE2.out, hw6.below _ _ (by omega) hbx⟩
end Go.Proofs.YtliiofjcghdjoaaDoor

/- What a piece stands for, and w a added to words of a row: contracts of package poly, second part. -/
namespace Go.Proofs.YtliiofjcghdjoaaDoor
open Go.ChangeShapes Go.WideShapes Go.ChangeAt Go.RowKit
set_option linter.unusedSimpArgs false
set_option linter.unusedVariables false

def zs24 : List UInt8 := List.replicate 24 0
theorem zs24_length : zs24.length = 24 := List.length_replicate
theorem zs24_ne : zs24 ≠ [] := by unfold zs24; simp
theorem alloc24 (w : World) : (Instr.alloc 138 true (.tuple #[])).run Tryd.prog w = .ok (.pointer (some ⟨w.heap.size, 0, none⟩)) (w.alloc (.cells ((byI zs24).map (Value.int .u8)).toArray 138)) := by kernel_rfl

set_option maxRecDepth 100000 in
set_option maxHeartbeats 2000000 in
theorem pieceOf_any (vb : Value) (b : List UInt8) (w : World) (hr : Rd w vb b) (hb16 : b.length ≤ 16) :
    Calls Tryd.prog 81 #[vb] w fun e w' => ∃ r : List Nat, e = .returned (nmV r) ∧ Nm3 r ∧ wv r = leN b + 256 ^ b.length ∧ Below w.heap.size w w' := by
  go_enter Tryd.func81, Tryd.ntmps81
  go_wp2_with (refine wpList_alloc_row (k := .u64) rfl 124 rfl (nI z3) (alloc_nm _) z3_nm.ne (nmMax z3_nm) ?_)
  intro w1 r1 b1 s1
  rw [z3_nm.len] at r1
  go_wp2_with (refine wpList_alloc_row (k := .u8) rfl 138 rfl (byI zs24) (alloc24 _) (byI_ne zs24_ne) (by rw [byI_length, zs24_length]; decide) ?_)
  intro w2 r2 b2 s2
  rw [byI_length, zs24_length] at r2
  have hr2 := (hr.kept b1).kept b2
  have n1 : w.heap.size < w1.heap.size := by have := s1.out; omega
  clear hr s1 s2
  go_wp2_with (refine wpList_copy_part (w := w1) rfl _ _ 40 rfl 5 Tryd.underlying40 (by kernel_rfl) zs24 rfl (by rw [zs24_length]; decide) r2 _ b rfl hr2 hb16 zs24_ne b2 (Nat.le_refl _) ?_)
  intro w3 r3 b3
  replace r1 := r1.kept b3
  have hbw := stepB b1 b3
  have hfl : (b ++ zs24.drop b.length).length = 24 := by
    rw [List.length_append, List.length_drop, zs24_length]
    omega
  have HP : Hid (leN ((b ++ zs24.drop b.length).set b.length 1) = leN b + 256 ^ b.length) := piece_num b hb16
  obtain ⟨full, hfull⟩ : ∃ f : List UInt8, f = b ++ zs24.drop b.length := ⟨_, rfl⟩
  rw [← hfull] at r3 HP hfl
  obtain ⟨L, hL⟩ : ∃ L : Nat, L = b.length := ⟨_, rfl⟩
  rw [← hL] at HP hb16 ⊢
  have HLb : Hid _ := hL
  have hc := r3.cellB (j := L) (by omega)
  have hf := r3.free L
  have r4 := r3.setB L 1
  have r1' := r1.other (p := ⟨w1.heap.size, L, none⟩) (by show w1.heap.size ≠ _; omega) (.int .u8 ((1 : UInt8).toNat : Int))
  have hb4 := (Wrote.set w1.heap.size L w3 (.int .u8 ((1 : UInt8).toNat : Int))).below _ _ (by omega) hbw
  have hLI : (L : Int) < 24 := by omega
  have hRd := r4.rdB
  have hl24 : (full.set L 1).length = 24 := by rw [List.length_set, hfl]
  rw [hl24] at hRd
  have HR : Hid (Rd (w3.setCell ⟨w1.heap.size, L, none⟩ (.int .u8 1)) (.slice (some ⟨w1.heap.size, 0, none⟩) 24 24) (full.set L 1)) := hRd
  have HL24 : Hid _ := hl24
  have R1 : Hid (RowAt .u64 124 w.heap.size 3 (nI z3) (w3.setCell ⟨w1.heap.size, L, none⟩ (.int .u8 1))) := r1'
  have HB4 : Hid (Below w.heap.size w (w3.setCell ⟨w1.heap.size, L, none⟩ (.int .u8 1))) := hb4
  clear hr2 r2 r3 r4 r1 r1' b1 b2 b3 hbw hb4 hRd hfull hL hfl hl24
  go_wp2_with fail
  refine (numberOf_any _ _ _ HR.out (by rw [HL24.out]; decide)).mono ?_
  rintro e w5 ⟨x, rfl, hx, hv, b5⟩
  have r5 := R1.out.kept b5
  have hb5 := stepB HB4.out b5
  rw [HP.out, HLb.out] at hv
  go_wp2_with (refine wpList_store_row rfl 124 _ _ rfl (nI x) rfl rfl r5 (by rw [z3_nm.len, hx.len]) (nmInfo z3_nm) ?_; intro w6 r6 hw6)
  refine bodyPost_row (p := 2) (ty := 124) rfl rfl rfl r6 Tryd.underlying124 rfl (nmInfo hx) ?_
  exact ⟨x, rfl, hx, hv, hw6.below _ _ (by omega) hb5⟩

set_option maxRecDepth 100000 in
set_option maxHeartbeats 2000000 in
theorem paddTimes_any (g o : Nat) (B : Array Value) (l a : List Nat) (c : Nat) (C : Int) (ho2 : o ≤ 1) (hl : Wd5 l) (ha : Nm3 a) (hc : c < 18446744073709551616) (hB : B = ((nI a).map (Value.int .u64)).toArray) (hC : C = (c : Int)) (cp : Nat) (hcp : cp = 5 - o) (w : World) (hR : RowAt .u64 139 g 5 (nI l) w) :
    Calls Tryd.prog 90 #[.slice (some ⟨g, o, none⟩) 3 cp, .int .u64 C, .agg B] w fun e w' => ∃ (r : List Nat) (q : Nat), e = .returned (.int .u64 (q : Int)) ∧ q < 18446744073709551616 ∧ Wd5 r ∧ (∀ j, o + 3 ≤ j → r.getD j 0 = l.getD j 0) ∧
      wv r + 18446744073709551616 ^ (o + 3) * q = wv l + 18446744073709551616 ^ o * (c * wv a) ∧ RowAt .u64 139 g 5 (nI r) w' ∧ Chg (fun b => b = g) w w' := by
  subst hC hcp
  have hg := hR.lt
  go_enter Tryd.func90, Tryd.ntmps90
  go_wp2_with (refine wpList_box_row (k := .u64) rfl 124 _ rfl (nI a) (by rw [← hB]; rfl) ha.ne (nmMax ha) ?_)
  intro w1 r1 b1 s1
  rw [ha.len] at r1
  replace hR := hR.kept b1
  have hch : Chg (fun b => b = g) w w1 := Chg.of_below b1
  have HA : Hid (Nm3 a) := ha
  have HL : Hid (Wd5 l) := hl
  clear b1 s1 hB ha hl
  go_wp2
  go_loopw [12, 7] (fun iv cv wx => ∃ (i q : Nat) (cur : List Nat), i ≤ 3 ∧ iv = .int .i64 (i : Int) ∧ cv = .int .u64 (q : Int) ∧ q < 18446744073709551616 ∧ Hid (Wd5 cur) ∧ Hid (∀ j, o + i ≤ j → cur.getD j 0 = l.getD j 0) ∧ Hid (wv cur + 18446744073709551616 ^ (o + i) * q = wv l + 18446744073709551616 ^ o * (c * wv (a.take i))) ∧
    RowAt .u64 124 w.heap.size 3 (nI a) wx ∧ RowAt .u64 139 g 5 (nI cur) wx ∧ Chg (fun b => b = g) w wx) (fun iv _ _ => 3 - (intOf iv).toNat)
  case atStart => exact ⟨0, 0, l, by omega, rfl, rfl, by omega, HL, (fun _ _ => rfl), (by show _ = _; rw [Nat.mul_zero, List.take_zero]; rfl), r1, hR, hch⟩
  case round =>
    obtain ⟨i, q, cur, hi, rfl, rfl, hq, HC, HO, HE, ra, rc, hcx⟩ := hrel
    clear hR r1 hch
    by_cases hlt : i < 3
    · have hd : decide ((i : Int) < 3) = true := decide_eq_true (by omega)
      have hiI : (i : Int) < 3 := by omega
      have hca := ra.cell (j := i) (by rw [nI_length, HA.out.1]; exact hlt)
      have hcc := rc.cell (j := o + i) (by rw [nI_length, HC.out.1]; omega)
      have hfc := rc.free (o + i)
      rw [nI_get] at hca hcc
      have hy := HA.out.get i
      have hx := HC.out.get (o + i)
      have HS : Hid (∀ s q' : Nat, s < 18446744073709551616 → s + 18446744073709551616 * q' = cur.getD (o + i) 0 + c * a.getD i 0 + q → Wd5 (cur.set (o + i) s) ∧ q' < 18446744073709551616 ∧ (∀ j, o + (i + 1) ≤ j → (cur.set (o + i) s).getD j 0 = l.getD j 0) ∧ wv (cur.set (o + i) s) + 18446744073709551616 ^ (o + (i + 1)) * q' = wv l + 18446744073709551616 ^ o * (c * wv (a.take (i + 1)))) := by
        intro s q' hs he
        refine ⟨HC.out.set _ hs, at_bound _ _ _ _ _ _ hx hc hy hq he, fun j hj => ?_, at_off cur a o i q q' s (wv l) c (by rw [HC.out.1]; omega) (by rw [HA.out.1]; exact hlt) he HE.out⟩
        rw [getD_set8 _ _ _ _ (by omega)]
        exact HO.out j (by omega)
      have HRc : Hid (∀ s : Nat, RowAt .u64 139 g 5 (nI (cur.set (o + i) s)) (wr.setCell ⟨g, o + i, none⟩ (.int .u64 (s : Int)))) := fun s => by
        rw [← nI_set]
        exact rc.set (o + i) _
      have HRb : Hid (∀ u : Value, RowAt .u64 124 w.heap.size 3 (nI a) (wr.setCell ⟨g, o + i, none⟩ u) ∧ Chg (fun b => b = g) w (wr.setCell ⟨g, o + i, none⟩ u)) := fun u =>
        ⟨ra.other (p := ⟨g, o + i, none⟩) (by show g ≠ _; omega) u, hcx.trans (Chg.of_wrote (Wrote.set g (o + i) wr u))⟩
      generalize a.getD i 0 = y at hca hy HS
      generalize cur.getD (o + i) 0 = x at hcc hx HS
      clear ra rc hcx HE HO
      go_wp2_with fail
      refine (mul64_any c y hc hy _).mono ?_
      rintro e w4 ⟨⟨hi', lo, rfl, hhi, hlo, hp⟩, rfl⟩
      obtain ⟨s1, c1, hs1, he1, run1⟩ := add64_run lo x
      obtain ⟨s2, c2, hs2, he2, run2⟩ := add64_run s1 q
      have hpb : c * y ≤ 18446744073709551615 * 18446744073709551615 := Nat.mul_le_mul (by omega) (by omega)
      obtain ⟨g1, hg1⟩ : ∃ n : Nat, n = hi' + c1 := ⟨_, rfl⟩
      obtain ⟨g2, hg2⟩ : ∃ n : Nat, n = g1 + c2 := ⟨_, rfl⟩
      obtain ⟨k1, k2, k3, k4⟩ := HS.out s2 g2 hs2 (by omega)
      have a1 : IntKind.u64.wrap ((hi' : Int) + (c1 : Int)) = (g1 : Int) := wrapA _ _ _ hg1 (by omega)
      have a2 : IntKind.u64.wrap ((g1 : Int) + (c2 : Int)) = (g2 : Int) := wrapA _ _ _ hg2 (by omega)
      have K1 : Hid (Wd5 (cur.set (o + i) s2)) := k1
      have K3 : Hid (∀ j, o + (i + 1) ≤ j → (cur.set (o + i) s2).getD j 0 = l.getD j 0) := k3
      have K4 : Hid _ := k4
      have hR2 := HRc.out s2
      obtain ⟨hRa, hcn⟩ := HRb.out (.int .u64 (s2 : Int))
      clear k1 k3 k4 HS HRc HRb hg1 hg2 hpb hp he1 he2
      go_wp2_with (first | simp only [run1] | simp only [run2])
      go_roundw
      case rel => exact ⟨i + 1, g2, cur.set (o + i) s2, by omega, by go_num, rfl, k2, K1, K3, K4, hRa, hR2, hcn⟩
      case measure => simp [intOf] <;> omega
    · have hie : i = 3 := by omega
      have hd : decide ((i : Int) < 3) = false := decide_eq_false (by omega)
      have hiI : (3 : Int) ≤ (i : Int) := by omega
      have HE2 : Hid (wv cur + 18446744073709551616 ^ (o + 3) * q = wv l + 18446744073709551616 ^ o * (c * wv a)) := by
        have := HE.out
        rw [hie, List.take_of_length_le (by rw [HA.out.1]; exact Nat.le_refl _)] at this
        exact this
      have HO2 : Hid (∀ j, o + 3 ≤ j → cur.getD j 0 = l.getD j 0) := fun j hj => HO.out j (by omega)
      clear HE HO hie
      go_wp2
      go_ret
      exact ⟨cur, q, rfl, hq, HC.out, HO2.out, HE2.out, rc, hcx⟩
end Go.Proofs.YtliiofjcghdjoaaDoor

/- What a product stands for, and the number below the prime: contracts of package poly, third part. -/
namespace Go.Proofs.YtliiofjcghdjoaaDoor
open Go.ChangeShapes Go.WideShapes Go.ChangeAt Go.RowKit
set_option linter.unusedSimpArgs false
set_option linter.unusedVariables false

theorem wdInfo5 {l : List Nat} (h : Wd5 l) : (Tryd.prog.info? 139).map (·.size) = some (nI l).length := by rw [h.len]; kernel_rfl
theorem wdMax5 {l : List Nat} (h : Wd5 l) : (nI l).length ≤ maxLen := by rw [h.len]; decide
theorem alloc_wd5 (w : World) : (Instr.alloc 139 true (.tuple #[])).run Tryd.prog w = .ok (.pointer (some ⟨w.heap.size, 0, none⟩)) (w.alloc (.cells ((nI z5).map (Value.int .u64)).toArray 139)) := by kernel_rfl
/-- A word is stored into a row. -/
theorem wp_store_u64 {e : TypeId} {g cap j : Nat} {l : List Int} {w : World} {op : Oper} {a : Act} {K : Act → World → Prop} {Q : Exit → Act → World → Prop} (x y : Operand) (ho : op.op = .store 22 x y) (hx : a.eval x = .pointer (some ⟨g, j, none⟩)) (X : Int) (hy : a.eval y = .int .u64 X)
    (hr : RowAt .u64 e g cap l w) (hj : j < l.length)
    (h : ∀ w', RowAt .u64 e g cap (l.set j X) w' → Wrote g w w' → K (a.put op.dst undef) w') : op.wp Tryd.prog a w K Q := by
  have hc := hr.cell hj
  have hf := hr.free j
  have h2 := h _ (hr.set j X) (Wrote.set g j w _)
  unfold Oper.wp execOp
  simp only [ho, hx, hy]
  go_simp
  exact h2

set_option maxRecDepth 100000 in
set_option maxHeartbeats 4000000 in
theorem ptimes_any (A B : Array Value) (a r : List Nat) (ha : Nm3 a) (hr : Nm3 r) (hr2 : wv r < 340282366920938463463374607431768211456) (hb : wv a * wv r < 57896044618658097711785492504343953926634992332820282019728792003956564819968) (hA : A = ((nI a).map (Value.int .u64)).toArray) (hB : B = ((nI r).map (Value.int .u64)).toArray) (w : World) :
    Calls Tryd.prog 82 #[.agg A, .agg B] w fun e w' => ∃ x : List Nat, e = .returned (nmV x) ∧ Nm3 x ∧ wv x = fold8 (wv a * wv r) ∧ Below w.heap.size w w' := by
  have HBd : Hid _ := hb
  have HR2 : Hid _ := hr2
  clear hb hr2
  go_enter Tryd.func82, Tryd.ntmps82
  go_wp2_with (refine wpList_box_row (k := .u64) rfl 124 _ rfl (nI a) (by rw [← hA]; rfl) ha.ne (nmMax ha) ?_)
  intro w1 r1 b1 s1
  rw [ha.len] at r1
  go_wp2_with (refine wpList_box_row (k := .u64) rfl 124 _ rfl (nI r) (by rw [← hB]; rfl) hr.ne (nmMax hr) ?_)
  intro w2 r2 b2 s2
  rw [hr.len] at r2
  go_wp2_with (refine wpList_alloc_row (k := .u64) rfl 124 rfl (nI z3) (alloc_nm _) z3_nm.ne (nmMax z3_nm) ?_)
  intro w3 r3 b3 s3
  rw [z3_nm.len] at r3
  go_wp2_with (refine wpList_alloc_row (k := .u64) rfl 139 rfl (nI z5) (alloc_wd5 _) z5_wd.ne (wdMax5 z5_wd) ?_)
  intro w4 r4 b4 s4
  rw [z5_wd.len] at r4
  have hr1 := ((r1.kept b2).kept b3).kept b4
  have hr2 := (r2.kept b3).kept b4
  have hr3 := r3.kept b4
  have hbw := stepB (stepB (stepB b1 b2) b3) b4
  have n1 : w.heap.size < w1.heap.size := by have := s1.out; omega
  have n2 : w1.heap.size < w2.heap.size := by have := s2.out; omega
  have n3 : w2.heap.size < w3.heap.size := by have := s3.out; omega
  have HA : Hid (Nm3 a) := ha
  have HR : Hid (Nm3 r) := hr
  clear r1 r2 r3 b1 b2 b3 b4 s1 s2 s3 s4 hA hB ha hr
  go_wp2
  go_loopw [10] (fun iv wx => ∃ (i : Nat) (cur : List Nat), i ≤ 2 ∧ iv = .int .i64 (i : Int) ∧ Hid (Wd5 cur) ∧ Hid (∀ j, 3 + i ≤ j → cur.getD j 0 = 0) ∧ Hid (wv cur = wv (r.take i) * wv a) ∧
    RowAt .u64 124 w.heap.size 3 (nI a) wx ∧ RowAt .u64 124 w1.heap.size 3 (nI r) wx ∧ RowAt .u64 124 w2.heap.size 3 (nI z3) wx ∧ RowAt .u64 139 w3.heap.size 5 (nI cur) wx ∧ Below w.heap.size w wx) (fun iv _ => 2 - (intOf iv).toNat)
  case atStart => exact ⟨0, z5, by omega, rfl, z5_wd, (fun j _ => z5_get j), (by show _ = _; rw [z5_wv, List.take_zero]; exact (Nat.zero_mul _).symm), hr1, hr2, hr3, r4, hbw⟩
  case round =>
    obtain ⟨i, cur, hi, rfl, HC, HZ, HE, ra, rr, rz, rc, hbx⟩ := hrel
    clear hr1 hr2 hr3 r4 hbw
    by_cases hlt : i < 2
    · have hd : decide ((i : Int) < 2) = true := decide_eq_true (by omega)
      have hiI : (i : Int) < 2 := by omega
      have hq := HR.out.get i
      have HS : Hid (∀ (x : List Nat) (q : Nat), q < 18446744073709551616 → Wd5 x → (∀ j, i + 3 ≤ j → x.getD j 0 = cur.getD j 0) → wv x + 18446744073709551616 ^ (i + 3) * q = wv cur + 18446744073709551616 ^ i * (r.getD i 0 * wv a) →
          Wd5 (x.set (3 + i) q) ∧ (∀ j, 3 + (i + 1) ≤ j → (x.set (3 + i) q).getD j 0 = 0) ∧ wv (x.set (3 + i) q) = wv (r.take (i + 1)) * wv a) := by
        intro x q hql hx hj he
        refine ⟨hx.set _ hql, fun j h => ?_, row_step x r i q 0 (wv cur) (wv a) (by rw [hx.1]; omega) (by rw [HR.out.1]; omega) (by rw [hj _ (by omega)]; exact HZ.out _ (Nat.le_refl _)) HE.out he⟩
        rw [getD_set8 _ _ _ _ (by omega), hj j (by omega)]
        exact HZ.out j (by omega)
      obtain ⟨y, hy⟩ : ∃ y : Nat, y = r.getD i 0 := ⟨_, rfl⟩
      rw [← hy] at hq HS
      have HY : Hid _ := hy
      obtain ⟨i3, hi3⟩ : ∃ n : Nat, n = 3 + i := ⟨_, rfl⟩
      have x1 : IntKind.i64.wrap (3 + (i : Int)) = (i3 : Int) := by rw [show 3 + (i : Int) = (i3 : Int) by omega]; exact IntWalk.i64_in _ (by omega)
      have HI3 : Hid _ := hi3
      have y1 : (i : Int) ≤ (i3 : Int) := by omega
      have y2 : (i3 : Int) ≤ 5 := by omega
      have y3 : (i3 : Int) < 5 := by omega
      have y4 : i3 - i = 3 := by omega
      have y5 : i ≤ i3 := by omega
      have y6 : ¬ (5 : Nat) = i := by omega
      have y7 : i ≤ 5 := by omega
      have y8 : (i : Int) < 3 := by omega
      have hS : RowAt .u64 124 w1.heap.size 3 (nI r) wr.drew ∧ RowAt .u64 124 w.heap.size 3 (nI a) wr.drew := ⟨rr.drew, ra.drew⟩
      replace rz := rz.drew
      replace rc := rc.drew
      replace hbx := hbx.drew
      clear ra rr hy hi3 HE HZ
      go_wp2_with fail
      refine wpS_begin (fun W => RowAt .u64 124 w1.heap.size 3 (nI r) W ∧ RowAt .u64 124 w.heap.size 3 (nI a) W) (by kernel_rfl) ?_
      refine sU_ hS 0 rfl ⟨_, by intro W hW; go_simp <;> with_reducible rfl, ?_⟩
      try simp only [Act.put, pA_, pB_, pC_]
      refine sU_ hS 1 rfl ⟨_, by intro W hW; go_simp <;> with_reducible rfl, ?_⟩
      try simp only [Act.put, pA_, pB_, pC_]
      refine sU_ hS 2 rfl ⟨_, by intro W hW; go_simp <;> with_reducible rfl, ?_⟩
      try simp only [Act.put, pA_, pB_, pC_]
      refine sU_ hS 3 rfl ⟨_, by intro W hW; go_simp <;> with_reducible rfl, ?_⟩
      try simp only [Act.put, pA_, pB_, pC_]
      refine sU_ hS 4 rfl ⟨_, by intro W hW; go_simp <;> with_reducible rfl, ?_⟩
      try simp only [Act.put, pA_, pB_, pC_]
      refine sU_ hS 5 rfl ⟨_, by intro W hW; go_simp <;> with_reducible rfl, ?_⟩
      try simp only [Act.put, pA_, pB_, pC_]
      refine sU_ hS 6 rfl ⟨_, by intro W hW; go_simp <;> with_reducible rfl, ?_⟩
      try simp only [Act.put, pA_, pB_, pC_]
      refine sU_ hS 7 rfl ⟨_, by intro W hW; go_simp <;> with_reducible rfl, ?_⟩
      try simp only [Act.put, pA_, pB_, pC_]
      refine sU_ hS 8 rfl ⟨_, by intro W hW; have hcW := hW.1.cell (j := i) (by rw [HR.out.len]; omega); rw [nI_get, ← HY.out] at hcW; go_simp <;> with_reducible rfl, ?_⟩
      try simp only [Act.put, pA_, pB_, pC_]
      refine sU_ hS 9 rfl ⟨_, by intro W hW; refine Eq.trans (exec_load_row' 124 _ (by rfl) (by rfl) hW.2 (Below.refl _ _) _ Tryd.underlying124 rfl (nmInfo HA.out)) ?_; with_reducible rfl, ?_⟩
      try simp only [Act.put, pA_, pB_, pC_]
      refine sD_ 10 fun K hK => ?_
      go_simp
      refine (paddTimes_any _ i _ cur a y _ (by omega) HC.out HA.out hq rfl rfl _ (by omega) _ rc).mono ?_
      rintro e w5 ⟨x, q, rfl, hql, hx, hj, he, rc5, hc5⟩
      obtain ⟨k1, k2, k3⟩ := HS.out x q hql hx hj he
      replace hS := And.intro (hS.1.chg hc5 (by omega)) (hS.2.chg hc5 (by omega))
      replace rz := rz.chg hc5 (by omega)
      replace hbx := Chg.below hbx hc5 (by have := hbx.size; show w.heap.size ≤ wr.heap.size; exact this) (fun k _ e => by omega)
      refine hK.out _ _ hS ?_
      clear hK K
      try simp only [Act.put, pA_, pB_, pC_]
      refine sU_ hS 11 rfl ⟨_, by intro W hW; go_simp <;> with_reducible rfl, ?_⟩
      try simp only [Act.put, pA_, pB_, pC_]
      refine sD_ 12 fun K hK => ?_
      refine wp_store_u64 _ _ (by rfl) (by rfl) (q : Int) (by rfl) rc5 (by rw [hx.len]; have := HI3.out; omega) ?_
      intro w6 rc6 hw6
      rw [nI_set, HI3.out] at rc6
      replace hS := And.intro (hS.1.wrote hw6 (by omega)) (hS.2.wrote hw6 (by omega))
      replace rz := rz.wrote hw6 (by omega)
      replace hbx := hw6.below _ _ (by omega) hbx
      refine hK.out _ _ hS ?_
      clear hK K
      try simp only [Act.put, pA_, pB_, pC_]
      refine wpS_done (by kernel_rfl) ?_
      have K1 : Hid (Wd5 (x.set (3 + i) q)) := k1
      have K2 : Hid (∀ j, 3 + (i + 1) ≤ j → (x.set (3 + i) q).getD j 0 = 0) := k2
      have K3 : Hid _ := k3
      clear k1 k2 k3 hj he HS rc rc5 hc5 hw6
      go_wp2
      go_roundw
      case rel => exact ⟨i + 1, x.set (3 + i) q, by omega, by go_num, K1, K2, K3, hS.2, hS.1, rz, rc6, hbx⟩
      case measure => simp [intOf] <;> omega
    · have hie : i = 2 := by omega
      have hd : decide ((i : Int) < 2) = false := decide_eq_false (by omega)
      have hiI : (2 : Int) ≤ (i : Int) := by omega
      have hW : wv cur = wv a * wv r := by
        rw [HE.out, hie, two_words HR.out HR2.out, Nat.mul_comm]
      obtain ⟨d0, d1, d2, d3, d4, hcur, l0, l1, l2, l3, l4⟩ := HC.out.five
      rw [hcur] at rc hW
      have HSum := times_sum d0 d1 d2 d3 d4 l0 l1 l2 l3 (by rw [hW]; exact HBd.out)
      rw [hW] at HSum
      have k0 := rc.cell (j := 0) (by simp [nI])
      have k1 := rc.cell (j := 1) (by simp [nI])
      have k2 := rc.cell (j := 2) (by simp [nI])
      have k3 := rc.cell (j := 3) (by simp [nI])
      rw [nI_get] at k0 k1 k2 k3
      simp only [List.getD_cons_zero, List.getD_cons_succ] at k0 k1 k2 k3
      have m1 := mask3 d2 l2
      have m2 := unmask3 d2 l2
      have m3 := or_parts (d2 / 4) (d3 % 4) (by omega) (by omega)
      have e1 : (d2 : Int) / 4 = ((d2 / 4 : Nat) : Int) := by omega
      have e2 : (d3 : Int) / 4 = ((d3 / 4 : Nat) : Int) := by omega
      have e3 : IntKind.u64.wrap ((d3 : Int) * 4611686018427387904) = ((4611686018427387904 * (d3 % 4) : Nat) : Int) := by rw [IntKind.wrap_u64]; omega
      have q1 : d2 % 4 < 18446744073709551616 := by omega
      have q2 : d2 - d2 % 4 < 18446744073709551616 := by omega
      have q3 : d2 / 4 + 4611686018427387904 * (d3 % 4) < 18446744073709551616 := by omega
      have q4 : d3 / 4 < 18446744073709551616 := by omega
      generalize d2 / 4 + 4611686018427387904 * (d3 % 4) = t3 at m3 HSum q3
      generalize 4611686018427387904 * (d3 % 4) = t2 at m3 e3
      generalize d2 - d2 % 4 = t1 at m2 HSum q2
      generalize d2 % 4 = t0 at m1 HSum q1
      generalize d2 / 4 = t5 at m3 e1
      generalize d3 / 4 = t4 at e2 HSum q4
      have HS : Hid _ := HSum
      have hg := rc.lt
      have v7 : Nm3 [d0, d1, t0] := Nm3.mk3 l0 l1 q1
      have v8 : Nm3 [t1, d3, 0] := Nm3.mk3 q2 l3 (by decide)
      have v9 : Nm3 [t3, t4, 0] := Nm3.mk3 q3 q4 (by decide)
      have V7 : Hid (Nm3 [d0, d1, t0]) := v7
      have V8 : Hid (Nm3 [t1, d3, 0]) := v8
      have V9 : Hid (Nm3 [t3, t4, 0]) := v9
      clear HSum hW HE HZ hie HC hcur l0 l1 l2 l3 l4 q1 q2 q3 q4 v7 v8 v9 ra rr
      go_wp2_with (refine wpList_alloc_row (k := .u64) rfl 124 rfl (nI z3) (alloc_nm _) z3_nm.ne (nmMax z3_nm) ?_)
      intro w5 r5 b5 s5
      rw [z3_nm.len] at r5
      have n5 : wr.heap.size < w5.heap.size := by have := s5.out; omega
      clear k0 k1 k2 k3
      go_wp2_with (refine wpList_store_row rfl 124 _ _ rfl (nI [d0, d1, t0]) rfl rfl r5 (by rw [z3_nm.len, V7.out.len]) (nmInfo z3_nm) ?_)
      intro w6 r7 hw6
      replace rc := (rc.kept b5).wrote hw6 (by omega)
      replace rz := (rz.kept b5).wrote hw6 (by omega)
      replace hbx := hw6.below _ _ (by omega) (stepB hbx b5)
      have n6 : wr.heap.size < w6.heap.size := by have := hw6.size; omega
      have k2 := rc.cell (j := 2) (by simp [nI])
      have k3 := rc.cell (j := 3) (by simp [nI])
      rw [nI_get] at k2 k3
      simp only [List.getD_cons_zero, List.getD_cons_succ] at k2 k3
      clear r5 b5 s5 hw6
      go_wp2_with (refine wpList_alloc_row (k := .u64) rfl 124 rfl (nI z3) (alloc_nm _) z3_nm.ne (nmMax z3_nm) ?_)
      intro w8 r5 b5 s5
      rw [z3_nm.len] at r5
      have n8 : w6.heap.size < w8.heap.size := by have := s5.out; omega
      clear k2 k3
      go_wp2_with (refine wpList_store_row rfl 124 _ _ rfl (nI [t1, d3, 0]) rfl rfl r5 (by rw [z3_nm.len, V8.out.len]) (nmInfo z3_nm) ?_)
      intro w9 r8 hw6
      replace rc := (rc.kept b5).wrote hw6 (by omega)
      replace rz := (rz.kept b5).wrote hw6 (by omega)
      replace r7 := (r7.kept b5).wrote hw6 (by omega)
      replace hbx := hw6.below _ _ (by omega) (stepB hbx b5)
      have n9 : w6.heap.size < w9.heap.size := by have := hw6.size; omega
      have k2 := rc.cell (j := 2) (by simp [nI])
      have k3 := rc.cell (j := 3) (by simp [nI])
      rw [nI_get] at k2 k3
      simp only [List.getD_cons_zero, List.getD_cons_succ] at k2 k3
      clear r5 b5 s5 hw6
      go_wp2_with (refine wpList_alloc_row (k := .u64) rfl 124 rfl (nI z3) (alloc_nm _) z3_nm.ne (nmMax z3_nm) ?_)
      intro w10 r5 b5 s5
      rw [z3_nm.len] at r5
      have n10 : w9.heap.size < w10.heap.size := by have := s5.out; omega
      clear k2 k3
      go_wp2_with (refine wpList_store_row rfl 124 _ _ rfl (nI [t3, t4, 0]) rfl rfl r5 (by rw [z3_nm.len, V9.out.len]) (nmInfo z3_nm) ?_)
      intro w11 r9 hw6
      replace rz := (rz.kept b5).wrote hw6 (by omega)
      replace r7 := (r7.kept b5).wrote hw6 (by omega)
      replace r8 := (r8.kept b5).wrote hw6 (by omega)
      replace hbx := hw6.below _ _ (by omega) (stepB hbx b5)
      clear r5 b5 s5 hw6 rc m1 m2 m3 e1 e2 e3
      go_wp2_with fail
      refine wpE_begin 5 (by kernel_rfl) ?_
      refine eU_ 0 rfl ⟨_, by intro W hW; refine Eq.trans (exec_load_row 124 _ (by rfl) (by rfl) r7 hW _ Tryd.underlying124 rfl (nmInfo V7.out)) ?_; with_reducible rfl, ?_⟩
      try simp only [Act.put, pA_, pB_, pC_]
      refine eU_ 1 rfl ⟨_, by intro W hW; refine Eq.trans (exec_load_row 124 _ (by rfl) (by rfl) r8 hW _ Tryd.underlying124 rfl (nmInfo V8.out)) ?_; with_reducible rfl, ?_⟩
      try simp only [Act.put, pA_, pB_, pC_]
      refine eU_ 3 rfl ⟨_, by intro W hW; refine Eq.trans (exec_load_row 124 _ (by rfl) (by rfl) r9 hW _ Tryd.underlying124 rfl (nmInfo V9.out)) ?_; with_reducible rfl, ?_⟩
      try simp only [Act.put, pA_, pB_, pC_]
      refine eD_ 2 fun K hK => ?_
      go_simp
      refine (plus_any _ _ [d0, d1, t0] [t1, d3, 0] V7.out V8.out HS.out.2.1 rfl rfl _).mono ?_
      rintro e wq ⟨x1, rfl, hx1, hv1, bq⟩
      refine hK.out _ _ bq ?_
      clear hK K
      try simp only [Act.put, pA_, pB_, pC_]
      refine eD_ 4 fun K hK => ?_
      go_simp
      refine (plus_any _ _ x1 [t3, t4, 0] hx1 V9.out (by rw [hv1, HS.out.1]; have := HS.out.2.2; omega) rfl rfl _).mono ?_
      rintro e wm ⟨x2, rfl, hx2, hv2, bm⟩
      rw [hv1, HS.out.1] at hv2
      refine hK.out _ _ bm ?_
      clear hK K
      try simp only [Act.put, pA_, pB_, pC_]
      refine eL_ fun K hK => ?_
      refine wp_store_row 124 _ _ rfl (nI x2) rfl rfl ((rz.drew.kept bq).kept bm) (by rw [z3_nm.len, hx2.len]) (nmInfo z3_nm) ?_
      intro wS rS hwS
      refine hK.out _ _ ?_
      clear hK K
      try simp only [Act.put, pA_, pB_, pC_]
      go_wp2_with fail
      refine bodyPost_row (p := 4) (ty := 124) rfl rfl rfl rS Tryd.underlying124 rfl (nmInfo hx2) ?_
      exact ⟨x2, rfl, hx2, hv2, hwS.below _ _ (by omega) (stepB (stepB hbx.drew bq) bm)⟩

set_option maxRecDepth 100000 in
set_option maxHeartbeats 4000000 in
theorem prest_any (A : Array Value) (a : List Nat) (ha : Nm3 a) (hb : wv a < 1701411834604692317316873037158841057280) (hA : A = ((nI a).map (Value.int .u64)).toArray) (w : World) :
    Calls Tryd.prog 83 #[.agg A] w fun e w' => ∃ x : List Nat, e = .returned (nmV x) ∧ Nm3 x ∧ wv x = wv a % p8 ∧ Below w.heap.size w w' := by
  have HBd : Hid _ := hb
  clear hb
  go_enter Tryd.func83, Tryd.ntmps83
  go_wp2_with (refine wpList_box_row (k := .u64) rfl 124 _ rfl (nI a) (by rw [← hA]; rfl) ha.ne (nmMax ha) ?_)
  intro w1 r1 b1 s1
  rw [ha.len] at r1
  go_wp2_with (refine wpList_alloc_row (k := .u64) rfl 124 rfl (nI z3) (alloc_nm _) z3_nm.ne (nmMax z3_nm) ?_)
  intro w2 r2 b2 s2
  rw [z3_nm.len] at r2
  replace r1 := r1.kept b2
  have hbw := stepB b1 b2
  have n1 : w.heap.size < w1.heap.size := by have := s1.out; omega
  have n2 : w1.heap.size < w2.heap.size := by have := s2.out; omega
  have HA : Hid (Nm3 a) := ha
  clear b1 b2 s1 s2 hA ha
  go_wp2_with (refine wpList_load_row rfl 124 _ rfl rfl r1 _ Tryd.underlying124 rfl (nmInfo HA.out) ?_)
  refine (plus_any _ _ a [5, 0, 0] HA.out (Nm3.mk3 (by decide) (by decide) (by decide)) (by have := HBd.out; simp only [wv] at this ⊢; omega) rfl rfl _).mono ?_
  rintro e w3 ⟨x, rfl, hx, hv, b3⟩
  have hv5 : wv x = wv a + 5 := hv
  replace r1 := r1.kept b3
  replace r2 := r2.kept b3
  replace hbw := stepB hbw b3
  have n3 := b3.size
  clear b3 hv
  go_wp2_with (refine wpList_alloc_row (k := .u64) rfl 124 rfl (nI z3) (alloc_nm _) z3_nm.ne (nmMax z3_nm) ?_)
  intro w4 r4 b4 s4
  rw [z3_nm.len] at r4
  replace r1 := r1.kept b4
  replace r2 := r2.kept b4
  replace hbw := stepB hbw b4
  clear b4 s4
  go_wp2_with (refine wpList_store_row rfl 124 _ _ rfl (nI x) rfl rfl r4 (by rw [z3_nm.len, hx.len]) (nmInfo z3_nm) ?_)
  intro w5 r5 hw5
  replace r1 := r1.wrote hw5 (by omega)
  replace r2 := r2.wrote hw5 (by omega)
  replace hbw := hw5.below _ _ (by omega) hbw
  clear r4 hw5
  obtain ⟨x0, x1, x2, hxe, l0, l1, l2⟩ := hx.three
  subst hxe
  obtain ⟨t1, t2⟩ := rest8_top x0 x1 x2 l0 l1
  have hr8 := rest8 (wv a) _ HBd.out hv5
  rw [← t1, ← t2] at hr8
  have k2 := r5.cell (j := 2) (by simp [nI])
  have f2 := r5.free 2
  rw [nI_get] at k2
  simp only [List.getD_cons_zero, List.getD_cons_succ] at k2
  have m1 := mask3 x2 l2
  have e1 : (x2 : Int) / 4 = ((x2 / 4 : Nat) : Int) := by omega
  have q1 : x2 % 4 < 18446744073709551616 := by omega
  have r6 := r5.set 2 ((x2 % 4 : Nat) : Int)
  rw [nI_set] at r6
  have r1' := r1.other (p := ⟨w3.heap.size, 2, none⟩) (by show w3.heap.size ≠ _; omega) (.int .u64 ((x2 % 4 : Nat) : Int))
  have r2' := r2.other (p := ⟨w3.heap.size, 2, none⟩) (by show w3.heap.size ≠ _; omega) (.int .u64 ((x2 % 4 : Nat) : Int))
  have hbw' := (Wrote.set w3.heap.size 2 w5 (.int .u64 ((x2 % 4 : Nat) : Int))).below _ _ (by omega) hbw
  simp only [List.set_cons_succ, List.set_cons_zero] at r6
  have hX : Nm3 [x0, x1, x2 % 4] := Nm3.mk3 l0 l1 q1
  have HX : Hid (Nm3 [x0, x1, x2 % 4]) := hX
  obtain ⟨M, Y, hY, HYv, HM, hneg⟩ : ∃ (M : Int) (Y : List Nat), Nm3 Y ∧ Hid (wv Y = wv a % p8) ∧ Hid ((M = 0 ∧ Y = a) ∨ (M = 18446744073709551615 ∧ Y = [x0, x1, x2 % 4])) ∧ IntKind.u64.wrap (-((x2 / 4 : Nat) : Int)) = M := by
    rcases hr8 with ⟨h1, h2⟩ | ⟨h1, h2⟩
    · exact ⟨0, a, HA.out, h2.symm, .inl ⟨rfl, rfl⟩, by rw [h1]; decide⟩
    · exact ⟨18446744073709551615, _, hX, h2.symm, .inr ⟨rfl, rfl⟩, by rw [h1]; decide⟩
  have HY : Hid (Nm3 Y) := hY
  generalize x2 % 4 = t0 at m1 r6 r1' r2' hbw' HX HM
  generalize x2 / 4 = t3 at e1 hneg
  have R6 : Hid _ := r6
  have R1 : Hid _ := r1'
  have R2 : Hid _ := r2'
  have HBW : Hid _ := hbw'
  clear r1 r2 r5 r6 r1' r2' hbw hbw' hr8 t1 t2 hX hY q1 l0 l1 l2 hv5 hx
  have HW : Hid (∀ i, bits .xor .u64 ((a.getD i 0 : Nat) : Int) (bits .and .u64 M (bits .xor .u64 ((a.getD i 0 : Nat) : Int) (([x0, x1, t0].getD i 0 : Nat) : Int))) = ((Y.getD i 0 : Nat) : Int)) := fun i => by
    refine sel8 M _ _ _ (HA.out.get i) (HX.out.get i) ?_
    rcases HM.out with ⟨h1, h2⟩ | ⟨h1, h2⟩
    · exact .inl ⟨h1, by rw [h2]⟩
    · exact .inr ⟨h1, by rw [h2]⟩
  clear HM
  generalize [x0, x1, t0] = X at R6 HX HW
  go_wp2
  go_loopw [17] (fun iv wx => ∃ (i : Nat), i ≤ 3 ∧ iv = .int .i64 (i : Int) ∧ RowAt .u64 124 w.heap.size 3 (nI (mxL Y a i)) wx ∧ RowAt .u64 124 w1.heap.size 3 (nI z3) wx ∧ RowAt .u64 124 w3.heap.size 3 (nI X) wx ∧ Below w.heap.size w wx) (fun iv _ => 3 - (intOf iv).toNat)
  case atStart => exact ⟨0, by omega, rfl, by rw [mxL_zero]; exact R1.out, R2.out, R6.out, HBW.out⟩
  case round =>
    obtain ⟨i, hi, rfl, ra, rz, rx, hbx⟩ := hrel
    clear R1 R2 R6 HBW
    by_cases hlt : i < 3
    · have hd : decide ((i : Int) < 3) = true := decide_eq_true (by omega)
      have hiI : (i : Int) < 3 := by omega
      have hca := ra.cell (j := i) (by rw [mxL_len HY.out.1 HA.out.1 i hi]; exact hlt)
      have hcx := rx.cell (j := i) (by rw [HX.out.len]; exact hlt)
      have hfa := ra.free i
      rw [nI_get, mxL_get HY.out.1 i hlt] at hca
      rw [nI_get] at hcx
      have hwi := HW.out i
      have HR : Hid (∀ W : World, Below wr.heap.size wr W → RowAt .u64 124 w.heap.size 3 (nI (mxL Y a (i + 1))) (W.setCell ⟨w.heap.size, i, none⟩ (.int .u64 ((Y.getD i 0 : Nat) : Int))) ∧
          RowAt .u64 124 w1.heap.size 3 (nI z3) (W.setCell ⟨w.heap.size, i, none⟩ (.int .u64 ((Y.getD i 0 : Nat) : Int))) ∧
          RowAt .u64 124 w3.heap.size 3 (nI X) (W.setCell ⟨w.heap.size, i, none⟩ (.int .u64 ((Y.getD i 0 : Nat) : Int))) ∧
          Below w.heap.size w (W.setCell ⟨w.heap.size, i, none⟩ (.int .u64 ((Y.getD i 0 : Nat) : Int)))) := by
        intro W hW
        refine ⟨?_, ?_, ?_, ?_⟩
        · have h1 := (ra.kept hW).set i ((Y.getD i 0 : Nat) : Int)
          rw [nI_set, mxL_set HY.out.1 HA.out.1 i hlt] at h1
          exact h1
        · exact (rz.kept hW).other (p := ⟨w.heap.size, i, none⟩) (by show w.heap.size ≠ _; omega) _
        · exact (rx.kept hW).other (p := ⟨w.heap.size, i, none⟩) (by show w.heap.size ≠ _; omega) _
        · exact (Wrote.set w.heap.size i _ _).below _ _ (Nat.le_refl _) (stepB hbx hW)
      generalize a.getD i 0 = p at hca hwi
      generalize X.getD i 0 = q at hcx hwi
      generalize Y.getD i 0 = p' at HR hwi
      clear ra rz rx hbx
      go_wp2_with fail
      have hB : Below wr.heap.size wr wr.drew := (Below.refl _ _).drew
      refine wpF_begin 14 (w0 := wr) (by kernel_rfl) ?_
      refine fP_ (.inr hB) 0 rfl ⟨_, by intro W; go_simp <;> with_reducible rfl, ?_⟩
      try simp only [Act.put, pA_, pB_, pC_]
      refine fP_ (.inr hB) 1 rfl ⟨_, by intro W; go_simp <;> with_reducible rfl, ?_⟩
      try simp only [Act.put, pA_, pB_, pC_]
      refine fU_ hB 2 rfl ⟨_, by intro W hW; have hcW := cellK hca hW; go_simp <;> with_reducible rfl, ?_⟩
      try simp only [Act.put, pA_, pB_, pC_]
      refine fP_ (.inr hB) 3 rfl ⟨_, by intro W; go_simp <;> with_reducible rfl, ?_⟩
      try simp only [Act.put, pA_, pB_, pC_]
      refine fP_ (.inr hB) 4 rfl ⟨_, by intro W; go_simp <;> with_reducible rfl, ?_⟩
      try simp only [Act.put, pA_, pB_, pC_]
      refine fP_ (.inr hB) 5 rfl ⟨_, by intro W; go_simp <;> with_reducible rfl, ?_⟩
      try simp only [Act.put, pA_, pB_, pC_]
      refine fU_ hB 6 rfl ⟨_, by intro W hW; have hcW := cellK hca hW; go_simp <;> with_reducible rfl, ?_⟩
      try simp only [Act.put, pA_, pB_, pC_]
      refine fP_ (.inr hB) 7 rfl ⟨_, by intro W; go_simp <;> with_reducible rfl, ?_⟩
      try simp only [Act.put, pA_, pB_, pC_]
      refine fP_ (.inr hB) 8 rfl ⟨_, by intro W; go_simp <;> with_reducible rfl, ?_⟩
      try simp only [Act.put, pA_, pB_, pC_]
      refine fU_ hB 9 rfl ⟨_, by intro W hW; have hcW := cellK hcx hW; go_simp <;> with_reducible rfl, ?_⟩
      try simp only [Act.put, pA_, pB_, pC_]
      refine fP_ (.inr hB) 10 rfl ⟨_, by intro W; go_simp <;> with_reducible rfl, ?_⟩
      try simp only [Act.put, pA_, pB_, pC_]
      refine fP_ (.inr hB) 11 rfl ⟨_, by intro W; go_simp <;> with_reducible rfl, ?_⟩
      try simp only [Act.put, pA_, pB_, pC_]
      refine fP_ (.inr hB) 12 rfl ⟨_, by intro W; go_simp <;> with_reducible rfl, ?_⟩
      try simp only [Act.put, pA_, pB_, pC_]
      refine fP_ (.inr hB) 13 rfl ⟨_, by intro W; go_simp <;> with_reducible rfl, ?_⟩
      try simp only [Act.put, pA_, pB_, pC_]
      refine fD_ 14 fun K hK => ?_
      go_simp
      refine hK.out _ _ (.inl rfl) ?_
      clear hK K
      try simp only [Act.put, pA_, pB_, pC_]
      refine wpF_done (by kernel_rfl) ?_
      obtain ⟨h1, h2, h3, h4⟩ := HR.out _ hB
      go_wp2
      go_roundw
      case rel => exact ⟨i + 1, by omega, by go_num, h1, h2, h3, h4⟩
      case measure => simp [intOf] <;> omega
    · have hie : i = 3 := by omega
      have hd : decide ((i : Int) < 3) = false := decide_eq_false (by omega)
      have hiI : (3 : Int) ≤ (i : Int) := by omega
      rw [hie, mxL_full HY.out.1 HA.out.1] at ra
      clear hie
      go_wp2_with (first | refine wpList_load_row rfl 124 _ rfl rfl ra _ Tryd.underlying124 rfl (nmInfo HY.out) ?_ | (refine wpList_store_row rfl 124 _ _ rfl (nI Y) rfl rfl rz (by rw [z3_nm.len, HY.out.len]) (nmInfo z3_nm) ?_; intro w6 r6 hw6))
      refine bodyPost_row (p := 2) (ty := 124) rfl rfl rfl r6 Tryd.underlying124 rfl (nmInfo HY.out) ?_
      exact ⟨Y, rfl, HY.out, HYv.out, hw6.below _ _ (by omega) hbx⟩
end Go.Proofs.YtliiofjcghdjoaaDoor

/- What a key is multiplied with: a contract of package poly, fourth part. -/
namespace Go.Proofs.YtliiofjcghdjoaaDoor
open Go.ChangeShapes Go.WideShapes Go.ChangeAt Go.RowKit
set_option linter.unusedSimpArgs false
set_option linter.unusedVariables false

/-- The table lies where the program laid it. -/
def KpT (w : World) : Prop := ∀ i, i < 16 → w.cell? ⟨1, i, none⟩ = some (.int .u8 ((kpL.getD i 0 : Nat) : Int))
theorem KpT.kept {w w' : World} (h : KpT w) (hb : Below w.heap.size w w') : KpT w' := fun i hi => by
  rw [hb.cell (p := ⟨1, i, none⟩) (World.block_lt_of_cell? w _ (h i hi))]
  exact h i hi
/-- The first i bytes of one, the others of another one. -/
def mxB (x a : List UInt8) (i : Nat) : List UInt8 := x.take i ++ a.drop i
theorem mxB_zero (x a : List UInt8) : mxB x a 0 = a := by simp [mxB]
theorem mxB_full {x a : List UInt8} {n : Nat} (hx : x.length = n) (ha : a.length = n) : mxB x a n = x := by
  unfold mxB
  rw [List.take_of_length_le (by omega), List.drop_eq_nil_of_le (by omega), List.append_nil]
theorem mxB_set {x a : List UInt8} {n : Nat} (hx : x.length = n) (ha : a.length = n) (i : Nat) (hi : i < n) : (mxB x a i).set i (x.getD i 0) = mxB x a (i + 1) := by
  have h1 : (x.take i).length = i := by rw [List.length_take, hx]; omega
  have h2 : i < x.length := by omega
  have h3 : i < a.length := by omega
  unfold mxB
  rw [List.set_append_right _ _ (by omega), h1, Nat.sub_self, List.drop_eq_getElem_cons h3, List.set_cons_zero, List.take_succ_eq_append_getElem h2, List.append_assoc]
  simp [h2]
theorem mxB_len {x a : List UInt8} {n : Nat} (hx : x.length = n) (ha : a.length = n) (i : Nat) (hi : i ≤ n) : (mxB x a i).length = n := by
  unfold mxB
  rw [List.length_append, List.length_take, List.length_drop, hx, ha]
  omega
/-- Where a row of bytes lies that is not empty. -/
theorem Rd.cells {w : World} {v : Value} {l : List UInt8} (h : Rd w v l) (hl : 0 < l.length) : ∃ b off cap, v = .slice (some ⟨b, off, none⟩) l.length cap ∧ l.length ≤ cap ∧ cap ≤ maxLen ∧ ∀ i, i < l.length → w.cell? ⟨b, off + i, none⟩ = some (.int .u8 ((l.getD i 0).toNat : Int)) := by
  obtain ⟨a, cap, e, h2, h3, h4, h5⟩ := h
  rcases h5 with h5 | ⟨b, off, ha, hc⟩
  · rw [h5] at hl
    simp at hl
  · subst ha
    exact ⟨b, off, cap, e, h2, h3, hc⟩

set_option maxRecDepth 100000 in
set_option maxHeartbeats 2000000 in
theorem pclamp_arg (vk : Value) (k : List UInt8) (w : World) (hk : Rd w vk k) (h : k.length ≠ 32) :
    Calls Tryd.prog 79 #[vk] w fun e w' => e = .returned (.slice none 0 0) ∧ w' = w := by
  obtain ⟨ak, ck, rfl, -, hmk, -, -⟩ := id hk
  have hne : ((k.length : Int) != 32) = true := by simp; omega
  go_enter Tryd.func79, Tryd.ntmps79
  go_wp2
  go_ret
  exact ⟨rfl, rfl⟩

set_option maxRecDepth 100000 in
set_option maxHeartbeats 2000000 in
theorem pclamp_any (vk : Value) (k : List UInt8) (w : World) (hT : KpT w) (hr : Rd w vk k) (hk32 : k.length = 32) :
    Calls Tryd.prog 79 #[vk] w fun e w' => ∃ r, e = .returned r ∧ New 5 w r (clP k) w' := by
  obtain ⟨ti, hti, hz0, hz1, hz2⟩ := info_parts info5
  obtain ⟨bk, ok, ck, rfl, hck, hmk, hcells⟩ := hr.cells (by omega)
  rw [hk32] at hck ⊢
  have HCells : Hid (∀ i, i < 16 → w.cell? ⟨bk, ok + i, none⟩ = some (.int .u8 ((k.getD i 0).toNat : Int))) := fun i hi => hcells i (by omega)
  have HT : Hid (KpT w) := hT
  unfold maxLen at hmk
  clear hr hk32 hT hcells
  have hcl : (clP k).length = 16 := clP_length k
  have HCl : Hid _ := hcl
  clear hcl
  go_enter Tryd.func79, Tryd.ntmps79
  go_wp2_with (at_make; go_must (refine wpList_make_full _ rfl _ _ 40 rfl w.heap.size 5 ti _ 1 Tryd.underlying40 hti hz0 hz1 _ _ _ _ 16 rfl rfl rfl rfl (by rw [hz2]; omega) (by unfold maxLen; omega) (Nat.le_refl _) ?_))
  intro w1 hown hgr
  have hN1 := New.made hown hgr
  rw [← mxB_zero (clP k) (List.replicate 16 0)] at hN1
  have hlR : (List.replicate 16 (0 : UInt8)).length = 16 := by simp
  have HlR : Hid _ := hlR
  generalize List.replicate 16 (0 : UInt8) = Z at hN1 HlR
  clear hown hgr hlR
  go_wp2
  go_loopw [9] (fun iv wx => ∃ i : Nat, i ≤ 16 ∧ iv = .int .i64 (i : Int) ∧ New 5 w (.slice (some ⟨w.heap.size, 0, none⟩) 16 16) (mxB (clP k) Z i) wx) (fun iv _ => 16 - (intOf iv).toNat)
  case atStart => exact ⟨0, by omega, rfl, hN1⟩
  case round =>
    obtain ⟨i, hi, rfl, hN⟩ := hrel
    clear hN1
    by_cases hlt : i < 16
    · have hd : decide ((i : Int) < 16) = true := decide_eq_true (by omega)
      have hiI : (i : Int) < 16 := by omega
      have hiK : (i : Int) < 32 := by omega
      obtain ⟨g', c', ev, -, hcell, hfree, hset⟩ := hN.store (j := i) (by rw [mxB_len HCl.out HlR.out i hi]; exact hlt)
      simp only [Value.slice.injEq, Option.some.injEq, Addr.mk.injEq, and_true, true_and] at ev
      obtain ⟨rfl, -, rfl⟩ := ev
      have hck := cellK (HCells.out i hlt) hN.2
      have hct := (HT.out.kept hN.2) i hlt
      have hv : bits .and .u8 ((k.getD i 0).toNat : Int) ((kpL.getD i 0 : Nat) : Int) = (((clP k).getD i 0).toNat : Int) := by
        rw [u8_and_nat _ _ (k.getD i 0).toNat_lt (kp_lt i hlt), clP_get k i hlt]
      have HNx : Hid (∀ W : World, Below wr.heap.size wr W → New 5 w (.slice (some ⟨w.heap.size, 0, none⟩) 16 16) (mxB (clP k) Z (i + 1)) (W.setCell ⟨w.heap.size, i, none⟩ (.int .u8 (((clP k).getD i 0).toNat : Int)))) := by
        intro W hW
        obtain ⟨g2, c2, ev2, -, -, -, hset2⟩ := (hN.kept hW).store (j := i) (by rw [mxB_len HCl.out HlR.out i hi]; exact hlt)
        simp only [Value.slice.injEq, Option.some.injEq, Addr.mk.injEq, and_true, true_and] at ev2
        obtain ⟨rfl, -, rfl⟩ := ev2
        have := hset2 ((clP k).getD i 0)
        rw [mxB_set HCl.out HlR.out i hlt] at this
        exact this
      have hcell' := hcell
      generalize ((clP k).getD i 0).toNat = y at hv HNx
      generalize (k.getD i 0).toNat = p at hck hv
      generalize kpL.getD i 0 = q at hct hv
      clear hset hN
      go_wp2_with fail
      have hB : Below wr.heap.size wr wr.drew := (Below.refl _ _).drew
      refine wpF_begin 11 (w0 := wr) (by kernel_rfl) ?_
      refine fP_ (.inr hB) 0 rfl ⟨_, by intro W; go_simp <;> with_reducible rfl, ?_⟩
      try simp only [Act.put, pA_, pB_, pC_]
      refine fP_ (.inr hB) 1 rfl ⟨_, by intro W; go_simp <;> with_reducible rfl, ?_⟩
      try simp only [Act.put, pA_, pB_, pC_]
      refine fP_ (.inr hB) 2 rfl ⟨_, by intro W; go_simp <;> with_reducible rfl, ?_⟩
      try simp only [Act.put, pA_, pB_, pC_]
      refine fP_ (.inr hB) 3 rfl ⟨_, by intro W; go_simp <;> with_reducible rfl, ?_⟩
      try simp only [Act.put, pA_, pB_, pC_]
      refine fP_ (.inr hB) 4 rfl ⟨_, by intro W; go_simp <;> with_reducible rfl, ?_⟩
      try simp only [Act.put, pA_, pB_, pC_]
      refine fU_ hB 5 rfl ⟨_, by intro W hW; have hcW := cellK hck hW; go_simp <;> with_reducible rfl, ?_⟩
      try simp only [Act.put, pA_, pB_, pC_]
      refine fP_ (.inr hB) 6 rfl ⟨_, by intro W; go_simp <;> with_reducible rfl, ?_⟩
      try simp only [Act.put, pA_, pB_, pC_]
      refine fP_ (.inr hB) 7 rfl ⟨_, by intro W; go_simp <;> with_reducible rfl, ?_⟩
      try simp only [Act.put, pA_, pB_, pC_]
      refine fU_ hB 8 rfl ⟨_, by intro W hW; have hcW := cellK hct hW; go_simp <;> with_reducible rfl, ?_⟩
      try simp only [Act.put, pA_, pB_, pC_]
      refine fP_ (.inr hB) 9 rfl ⟨_, by intro W; go_simp <;> with_reducible rfl, ?_⟩
      try simp only [Act.put, pA_, pB_, pC_]
      refine fP_ (.inr hB) 10 rfl ⟨_, by intro W; go_simp <;> with_reducible rfl, ?_⟩
      try simp only [Act.put, pA_, pB_, pC_]
      refine fD_ 11 fun K hK => ?_
      go_simp
      refine hK.out _ _ (.inl rfl) ?_
      clear hK K
      try simp only [Act.put, pA_, pB_, pC_]
      refine wpF_done (by kernel_rfl) ?_
      have hN2 := HNx.out _ hB
      go_wp2
      go_roundw
      case rel => exact ⟨i + 1, by omega, by go_num, hN2⟩
      case measure => simp [intOf] <;> omega
    · have hie : i = 16 := by omega
      have hd : decide ((i : Int) < 16) = false := decide_eq_false (by omega)
      have hiI : (16 : Int) ≤ (i : Int) := by omega
      rw [hie, mxB_full HCl.out HlR.out] at hN
      clear hie
      go_wp2
      go_ret
      exact ⟨_, rfl, hN⟩
end Go.Proofs.YtliiofjcghdjoaaDoor

/- How long it takes till a message is said again, and when it is time: plain mathematics. No program's text is named. -/
namespace Go.Proofs.YtliiofjcghdjoaaDoor
set_option linter.unusedSimpArgs false
set_option linter.unusedVariables false

/-- Rules. -/
structure Rl where
  retry : Nat
  rmax : Nat
  tries : Int
  rekey : Nat
  expire : Nat
  rcount : Nat
  ecount : Nat
structure RlW (r : Rl) : Prop where
  retry : r.retry < 18446744073709551616
  rmax : r.rmax < 18446744073709551616
  tries : -9223372036854775808 ≤ r.tries ∧ r.tries ≤ 9223372036854775807
  rekey : r.rekey < 18446744073709551616
  expire : r.expire < 18446744073709551616
  rcount : r.rcount < 18446744073709551616
  ecount : r.ecount < 18446744073709551616
def rlC (r : Rl) : List Value := [.int .u64 (r.retry : Int), .int .u64 (r.rmax : Int), .int .i64 r.tries, .int .u64 (r.rekey : Int), .int .u64 (r.expire : Int), .int .u64 (r.rcount : Int), .int .u64 (r.ecount : Int)]
def tmC (last : Nat) (tries : Int) : List Value := [.int .u64 (last : Int), .int .i64 tries]
/-- How long since a moment. -/
def snN (then' now : Nat) : Nat := if now < then' then 0 else now - then'
/-- The first wait. -/
def w0N (r : Rl) : Nat := if r.retry = 0 then 1 else r.retry
/-- The greatest one. -/
def moN (r : Rl) : Nat := if r.rmax < w0N r then w0N r else r.rmax
/-- How long it takes till a message is said again. -/
def wtN (r : Rl) (n : Int) : Nat := min (w0N r * 2 ^ n.toNat) (moN r)
def duB (r : Rl) (last : Nat) (tries : Int) (now : Nat) : Bool := decide (wtN r tries ≤ snN last now)
/-- The timer behind it. -/
def agT (r : Rl) (last : Nat) (tries : Int) (now : Nat) : (Nat × Int) × Bool := if r.tries ≤ tries then ((last, tries), false) else ((now, tries + 1), true)
theorem w0N_pos (r : Rl) : 0 < w0N r := by unfold w0N; split <;> omega
theorem moN_ge (r : Rl) : w0N r ≤ moN r := by unfold moN; split <;> omega
theorem moN_lt {r : Rl} (h : RlW r) : moN r < 18446744073709551616 := by
  have h1 := h.retry
  have h2 := h.rmax
  unfold moN w0N
  split <;> split <;> omega
theorem two_pow_le {a b : Nat} (h : a ≤ b) : 2 ^ a ≤ 2 ^ b := Nat.pow_le_pow_right (by decide) h
/-- So many doublings as are there. -/
theorem wt_end (r : Rl) {i : Nat} {n : Int} (hi : n ≤ (i : Int)) (hi2 : (i : Int) ≤ n ∨ i = 0) (hm : w0N r * 2 ^ i ≤ moN r) : wtN r n = w0N r * 2 ^ i := by
  have e : n.toNat = i := by omega
  unfold wtN
  rw [e]
  exact Nat.min_eq_left hm
/-- One more is too many. -/
theorem wt_most (r : Rl) {i : Nat} {n : Int} (hi : (i : Int) < n) (hm : moN r < 2 * (w0N r * 2 ^ i)) : wtN r n = moN r := by
  have e : i + 1 ≤ n.toNat := by omega
  have h := Nat.mul_le_mul_left (w0N r) (two_pow_le e)
  rw [Nat.pow_succ, ← Nat.mul_assoc, Nat.mul_comm _ 2] at h
  unfold wtN
  exact Nat.min_eq_right (by omega)
theorem wt_few (r : Rl) {i : Nat} (h : RlW r) (hm : w0N r * 2 ^ i ≤ moN r) : i < 64 := by
  rcases Nat.lt_or_ge i 64 with h1 | h1
  · exact h1
  · have h2 := two_pow_le h1
    have h3 := Nat.mul_le_mul (w0N_pos r) h2
    have h4 := moN_lt h
    have h5 : 2 ^ 64 = 18446744073709551616 := by decide
    omega
theorem wt_next (r : Rl) (i : Nat) : w0N r * 2 ^ (i + 1) = 2 * (w0N r * 2 ^ i) := by rw [Nat.pow_succ, ← Nat.mul_assoc, Nat.mul_comm _ 2]
end Go.Proofs.YtliiofjcghdjoaaDoor

/- Waits double: plain mathematics. No program's text is named. -/
namespace Go.Proofs.YtliiofjcghdjoaaDoor
set_option linter.unusedSimpArgs false
set_option linter.unusedVariables false

theorem wt_zero (r : Rl) : wtN r 0 = w0N r := by
  have := moN_ge r
  unfold wtN
  simp
  omega
theorem wt_neg (r : Rl) {n : Int} (h : n ≤ 0) : wtN r n = w0N r := by
  have e : n.toNat = 0 := by omega
  have := moN_ge r
  unfold wtN
  rw [e]
  simp
  omega
theorem moN_two (r : Rl) : moN r = if r.rmax < wtN r 0 then wtN r 0 else r.rmax := by rw [wt_zero]; rfl
theorem wt_pos (r : Rl) (n : Int) : 0 < wtN r n := by
  have h1 := w0N_pos r
  have h2 := moN_ge r
  have h3 : 0 < 2 ^ n.toNat := Nat.pow_pos (by decide)
  have h4 := Nat.mul_pos h1 h3
  unfold wtN
  omega
theorem wt_le (r : Rl) (n : Int) : wtN r n ≤ moN r := Nat.min_le_right _ _
theorem wt_first (r : Rl) : (wtN r 0 = r.retry ∧ r.retry ≠ 0) ∨ (r.retry = 0 ∧ wtN r 0 = 1) := by
  rw [wt_zero]
  unfold w0N
  split <;> omega
theorem wt_doubles (r : Rl) (k : Nat) : (wtN r ((k : Int) + 1) = 2 * wtN r (k : Int) ∧ wtN r (k : Int) < wtN r ((k : Int) + 1)) ∨ wtN r ((k : Int) + 1) = moN r := by
  have e1 : ((k : Int) + 1).toNat = k + 1 := by omega
  have e2 : ((k : Int)).toNat = k := by omega
  have h1 := Nat.mul_pos (w0N_pos r) (show 0 < 2 ^ k from Nat.pow_pos (by decide))
  have h2 := wt_next r k
  unfold wtN
  rw [e1, e2, h2]
  omega
end Go.Proofs.YtliiofjcghdjoaaDoor

/- Waits by halving the bound: plain mathematics. No program's text is named. -/
namespace Go.Proofs.YtliiofjcghdjoaaDoor
set_option linter.unusedSimpArgs false
set_option linter.unusedVariables false

theorem wt_gt (r : Rl) (n : Int) (h : moN r / 2 ^ n.toNat < w0N r) : wtN r n = moN r := by
  have := (Nat.div_lt_iff_lt_mul (Nat.pow_pos (by decide))).1 h
  unfold wtN
  omega
theorem wt_le2 (r : Rl) (n : Int) (h : ¬ moN r / 2 ^ n.toNat < w0N r) : wtN r n = w0N r * 2 ^ n.toNat ∧ w0N r * 2 ^ n.toNat ≤ moN r := by
  have h1 : ¬ moN r < w0N r * 2 ^ n.toNat := fun e => h ((Nat.div_lt_iff_lt_mul (Nat.pow_pos (by decide))).2 e)
  unfold wtN
  omega
/-- Halved more than 64 times nothing is left. -/
theorem half_min {x n : Nat} (hx : x < 18446744073709551616) : x / 2 ^ min n 64 = x / 2 ^ n := by
  rcases Nat.le_total n 64 with h | h
  · rw [Nat.min_eq_left h]
  · have h5 : 2 ^ 64 = 18446744073709551616 := by decide
    have h2 := two_pow_le h
    rw [Nat.min_eq_right h, Nat.div_eq_of_lt (by omega), Nat.div_eq_of_lt (by omega)]
end Go.Proofs.YtliiofjcghdjoaaDoor

/- How long it takes till a message is said again, and timers: contracts of package session, first part. -/
namespace Go.Proofs.YtliiofjcghdjoaaDoor
open Go.ChangeShapes Go.WideShapes Go.ChangeAt Go.RowKit
set_option linter.unusedSimpArgs false
set_option linter.unusedVariables false

theorem csince_any (t n : Nat) (ht : t < 18446744073709551616) (hn : n < 18446744073709551616) (w : World) :
    Calls Tryd.prog 27 #[.int .u64 (t : Int), .int .u64 (n : Int)] w fun e w' => e = .returned (.int .u64 ((snN t n : Nat) : Int)) ∧ w' = w := by
  obtain ⟨q, hq⟩ : ∃ q : Nat, q = min t n := ⟨_, rfl⟩
  have hm1 : min (t : Int) (n : Int) = (q : Int) := by omega
  obtain ⟨D, hD⟩ : ∃ D : Nat, D = n - q := ⟨_, rfl⟩
  have HE : Hid (snN t n = D) := (by unfold snN; split <;> omega : snN t n = D)
  have e2 : IntKind.u64.wrap ((n : Int) - (q : Int)) = (D : Int) := by rw [IntKind.wrap_u64]; omega
  clear hq hD
  go_enter Tryd.func27, Tryd.ntmps27
  go_wp2
  go_ret
  exact ⟨retI (by rw [HE.out]), rfl⟩

set_option maxRecDepth 100000 in
set_option maxHeartbeats 4000000 in
theorem cwait_any (r : Rl) (hr : RlW r) (n : Int) (hn : n ≤ 9223372036854775807) (A : Array Value) (hA : A = (rlC r).toArray) (w : World) :
    Calls Tryd.prog 9 #[.agg A, .int .i64 n] w fun e w' => e = .returned (.int .u64 ((wtN r n : Nat) : Int)) ∧ Below w.heap.size w w' := by
  have HA : Hid (A = (rlC r).toArray) := hA
  obtain ⟨d, hd⟩ : ∃ d : Nat, d = n.toNat := ⟨_, rfl⟩
  have hmx : max n 0 = (d : Int) := by omega
  have hmx2 : max 0 n = (d : Int) := by omega
  have HG : Hid (moN r / 2 ^ d < w0N r → wtN r n = moN r) := (by rw [hd]; exact wt_gt r n : moN r / 2 ^ d < w0N r → wtN r n = moN r)
  have HL : Hid (¬ moN r / 2 ^ d < w0N r → wtN r n = w0N r * 2 ^ d ∧ w0N r * 2 ^ d ≤ moN r) := (by rw [hd]; exact wt_le2 r n : ¬ moN r / 2 ^ d < w0N r → wtN r n = w0N r * 2 ^ d ∧ w0N r * 2 ^ d ≤ moN r)
  have HF : Hid (w0N r * 2 ^ d ≤ moN r → d < 64) := fun h => wt_few r hr h
  have hlt := moN_lt hr
  have hge := moN_ge r
  have h0w : w0N r = if r.retry = 0 then 1 else r.retry := rfl
  have h0m : moN r = if r.rmax < w0N r then w0N r else r.rmax := rfl
  obtain ⟨R0, hR0⟩ : ∃ x, x = r.retry := ⟨_, rfl⟩
  obtain ⟨R1, hR1⟩ : ∃ x, x = r.rmax := ⟨_, rfl⟩
  obtain ⟨Z, hZ⟩ : ∃ x, x = wtN r n := ⟨_, rfl⟩
  rw [← hZ] at HG HL ⊢
  have HCl : Hid (rlC r = [.int .u64 (R0 : Int), .int .u64 (R1 : Int), .int .i64 r.tries, .int .u64 (r.rekey : Int), .int .u64 (r.expire : Int), .int .u64 (r.rcount : Int), .int .u64 (r.ecount : Int)]) := (by rw [hR0, hR1]; rfl : rlC r = _)
  rw [← hR0] at h0w
  rw [← hR1] at h0m
  generalize w0N r = W0 at HG HL HF h0w h0m hge
  generalize moN r = MO at HG HL HF h0m hge hlt
  have m1 : max (R0 : Int) 1 = (W0 : Int) := by split at h0w <;> omega
  have m2 : max (R1 : Int) (W0 : Int) = (MO : Int) := by split at h0m <;> omega
  obtain ⟨Q, hQ⟩ : ∃ Q, Q = MO / 2 ^ d := ⟨_, rfl⟩
  have hs : ∀ yk, Op.shift .shr .u64 (MO : Int) yk (d : Int) = pure (.int .u64 (Q : Int)) := fun yk => by
    rw [shift_shr_any _ _ _ _ (by omega)]
    have e1 : min ((d : Int)).toNat IntKind.u64.bits = min d 64 := by show min ((d : Int)).toNat 64 = _; omega
    rw [e1, hQ, ← half_min hlt]
    simp
  rw [← hQ] at HG HL
  clear hA hr hR0 hR1 hZ hd h0w h0m hQ
  go_enter Tryd.func9, Tryd.ntmps9
  go_wp2_with (refine wpList_box_blk rfl 24 _ rfl (rlC r) (by rw [← HA.out]; rfl) ?_)
  intro w1 r1 b1 s1
  obtain ⟨g, hg⟩ : ∃ n : Nat, n = w.heap.size := ⟨_, rfl⟩
  rw [← hg] at r1 ⊢
  rw [HCl.out] at r1
  have c0 : w1.cell? ⟨g, 0, none⟩ = some (.int .u64 (R0 : Int)) := r1.cell 0
  have c1 : w1.cell? ⟨g, 1, none⟩ = some (.int .u64 (R1 : Int)) := r1.cell 1
  have HB : Hid (Below w.heap.size w w1) := b1
  have HLt : Hid (MO < 18446744073709551616) := hlt
  clear r1 b1 s1 hg HA HCl
  by_cases h : Q < W0
  · have d1 : decide ((Q : Int) < (W0 : Int)) = true := decide_eq_true (by omega)
    have d2 : decide (Q < W0) = true := decide_eq_true h
    have HZ : Hid (Z = MO) := HG.out h
    clear h HG HL hlt hge
    go_wp2
    go_ret
    exact ⟨retI (by rw [HZ.out]), HB.out⟩
  · have d1 : decide ((Q : Int) < (W0 : Int)) = false := decide_eq_false (by omega)
    have d2 : decide (Q < W0) = false := decide_eq_false h
    obtain ⟨hz, hle⟩ := HL.out h
    have h64 := HF.out hle
    have HZ : Hid (Z = W0 * 2 ^ d) := hz
    obtain ⟨Y, hY⟩ : ∃ Y, Y = W0 * 2 ^ d := ⟨_, rfl⟩
    have HY : Hid (Y = W0 * 2 ^ d) := hY
    rw [← hY] at hle
    have hs2 : ∀ yk, Op.shift .shl .u64 (W0 : Int) yk (d : Int) = pure (.int .u64 (Y : Int)) := fun yk => by
      rw [shift_shl_any _ _ _ _ (by omega)]
      have e1 : min ((d : Int)).toNat IntKind.u64.bits = d := by show min ((d : Int)).toNat 64 = _; omega
      have e2 : (W0 : Int) * 2 ^ d = (Y : Int) := by rw [hY]; simp
      rw [e1, e2, IntKind.wrap_u64, Int.emod_eq_of_lt (by omega) (by omega)]
    clear h HG HL hlt hge hz hle h64 hY
    go_wp2
    go_ret
    exact ⟨retI (by rw [HZ.out, HY.out]), HB.out⟩
end Go.Proofs.YtliiofjcghdjoaaDoor
