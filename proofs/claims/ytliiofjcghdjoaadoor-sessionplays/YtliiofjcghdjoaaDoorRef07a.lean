/- What the document's own turning of a word, and quarter round, are: contracts of the reference of layer 7. -/
import Derived.Test.YtliiofjcghdjoaaDoorBase
import Derived.Test.YtliiofjcghdjoaaDoorChecked
import Derived.OwnWalk
namespace Go.Proofs.YtliiofjcghdjoaaDoor
open Go.ChangeShapes Go.WideShapes Go.ChangeAt Go.RowKit
set_option linter.unusedSimpArgs false
set_option linter.unusedVariables false

set_option maxRecDepth 100000 in
set_option maxHeartbeats 1000000 in
theorem turnR_any (x n : Nat) (hx : x < 4294967296) (hn : n ≤ 32) (X M : Int) (hX : X = (x : Int)) (hM : M = (n : Int)) (w : World) :
    Calls Tryd.prog 86 #[.int .u64 X, .int .i64 M] w fun e w' => e = .returned (.int .u64 ((trn x n : Nat) : Int)) ∧ w' = w := by
  subst hX hM
  go_enter Tryd.func86, Tryd.ntmps86
  go_wp2
  go_loop [0, 5] (fun xv iv => ∃ i y : Nat, i ≤ n ∧ iv = .int .i64 (i : Int) ∧ xv = .int .u64 (y : Int) ∧ y < 4294967296 ∧ Hid (y = trn x i)) (fun _ iv => n - (intOf iv).toNat)
  case atStart => exact ⟨0, x, by omega, rfl, rfl, hx, (by show _ = _; rfl)⟩
  case round =>
    obtain ⟨i, y, hi, rfl, rfl, hy, HY⟩ := hrel
    by_cases hlt : i < n
    · have hd : decide ((i : Int) < (n : Int)) = true := decide_eq_true (by omega)
      have hiI : (i : Int) < (n : Int) := by omega
      obtain ⟨y2, hy2⟩ : ∃ z : Nat, z = y * 2 := ⟨_, rfl⟩
      have e1 : IntKind.u64.wrap ((y : Int) * 2) = (y2 : Int) := by rw [IntKind.wrap_u64]; omega
      by_cases hc : 4294967296 ≤ y2
      · have hd2 : decide ((4294967296 : Int) ≤ (y2 : Int)) = true := decide_eq_true (by omega)
        have hc2 : (4294967296 : Int) ≤ (y2 : Int) := by omega
        obtain ⟨y3, hy3⟩ : ∃ z : Nat, z = y2 - 4294967296 := ⟨_, rfl⟩
        obtain ⟨y4, hy4⟩ : ∃ z : Nat, z = y3 + 1 := ⟨_, rfl⟩
        have e2 : IntKind.u64.wrap ((y2 : Int) - 4294967296) = (y3 : Int) := by rw [IntKind.wrap_u64]; omega
        have e3 : IntKind.u64.wrap ((y3 : Int) + 1) = (y4 : Int) := by rw [IntKind.wrap_u64]; omega
        have HY2 : Hid (y4 = trn x (i + 1)) := by
          show y4 = tr1 (trn x i)
          rw [← HY.out]
          unfold tr1
          rw [if_pos (by omega)]
          omega
        have h4 : y4 < 4294967296 := by omega
        clear hy2 hy3 hy4 HY
        go_wp2
        go_round
        case rel => exact ⟨i + 1, y4, by omega, by go_num, rfl, h4, HY2⟩
        case measure => simp [intOf] <;> omega
      · have hd2 : decide ((4294967296 : Int) ≤ (y2 : Int)) = false := decide_eq_false (by omega)
        have hc2 : (y2 : Int) < 4294967296 := by omega
        have HY2 : Hid (y2 = trn x (i + 1)) := by
          show y2 = tr1 (trn x i)
          rw [← HY.out]
          unfold tr1
          rw [if_neg (by omega)]
          omega
        have h4 : y2 < 4294967296 := by omega
        clear hy2 HY
        go_wp2
        go_round
        case rel => exact ⟨i + 1, y2, by omega, by go_num, rfl, h4, HY2⟩
        case measure => simp [intOf] <;> omega
    · have hie : i = n := by omega
      have hd : decide ((i : Int) < (n : Int)) = false := decide_eq_false (by omega)
      have hiI : (n : Int) ≤ (i : Int) := by omega
      have HY2 : Hid (y = trn x n) := by rw [← hie]; exact HY
      clear HY hie
      go_wp2
      go_ret
      exact ⟨by rw [← HY2.out]; rfl, rfl⟩

/-- Where a quarter round stands. -/
def qk (q : Q4) : Nat → Q4
  | 0 => q
  | 1 => qh q 16 12
  | _ => qr q
theorem qk_ok {q : Q4} (h : q.ok) (k : Nat) : (qk q k).ok := by
  match k with
  | 0 => exact h
  | 1 => exact qh_ok h _ _
  | (n + 2) => exact qr_ok h
theorem qk_next (q : Q4) (k m n : Nat) (hk : (k = 0 ∧ m = 16 ∧ n = 12) ∨ (k = 1 ∧ m = 8 ∧ n = 7)) : qh (qk q k) m n = qk q (k + 1) := by
  rcases hk with ⟨rfl, rfl, rfl⟩ | ⟨rfl, rfl, rfl⟩ <;> rfl
def byL : List Nat := [16, 12, 8, 7]

set_option maxRecDepth 100000 in
set_option maxHeartbeats 2000000 in
theorem quarterR_any (q : Q4) (hq : q.ok) (A B C D : Int) (hA : A = (q.a : Int)) (hB : B = (q.b : Int)) (hC : C = (q.c : Int)) (hD : D = (q.d : Int)) (w : World) :
    Calls Tryd.prog 72 #[.int .u64 A, .int .u64 B, .int .u64 C, .int .u64 D] w fun e w' => e = .returned (.tuple #[.int .u64 ((qr q).a : Int), .int .u64 ((qr q).b : Int), .int .u64 ((qr q).c : Int), .int .u64 ((qr q).d : Int)]) ∧ Below w.heap.size w w' := by
  subst hA hB hC hD
  have HQ : Hid q.ok := hq
  clear hq
  go_enter Tryd.func72, Tryd.ntmps72
  have hL : NewI .i64 3 w (.slice (some ⟨w.heap.size, 0, none⟩) 4 4) (nI byL) (w.alloc (.cells #[.int .i64 16, .int .i64 12, .int .i64 8, .int .i64 7] 3)) := NewI.lit (nI byL) rfl rfl rfl (by decide)
  have hR := hL.rd
  have hbw := hL.2
  go_wp2
  generalize w.alloc (.cells #[.int .i64 16, .int .i64 12, .int .i64 8, .int .i64 7] 3) = w1 at hR hbw ⊢
  clear hL
  go_loop [0, 1, 2, 3, 13] (fun av bv' cv dv iv => ∃ (k : Nat) (p : Q4), k ≤ 2 ∧ iv = .int .i64 ((2 * k : Nat) : Int) ∧ av = .int .u64 (p.a : Int) ∧ bv' = .int .u64 (p.b : Int) ∧ cv = .int .u64 (p.c : Int) ∧ dv = .int .u64 (p.d : Int) ∧ Hid (p = qk q k)) (fun _ _ _ _ iv => 4 - (intOf iv).toNat)
  case atStart => exact ⟨0, q, by omega, rfl, rfl, rfl, rfl, rfl, (by show _ = _; rfl)⟩
  case round =>
    obtain ⟨k, p, hk, rfl, rfl, rfl, rfl, rfl, HP⟩ := hrel
    have hpok : p.ok := by rw [HP.out]; exact qk_ok HQ.out k
    obtain ⟨a, b, c, d⟩ := p
    obtain ⟨ha, hb, hc, hd⟩ := hpok
    simp only at ha hb hc hd
    by_cases hlt : k < 2
    · obtain ⟨m, n, hmn, hm32, hn32⟩ : ∃ m n : Nat, ((k = 0 ∧ m = 16 ∧ n = 12) ∨ (k = 1 ∧ m = 8 ∧ n = 7)) ∧ m ≤ 32 ∧ n ≤ 32 := by
        by_cases h0 : k = 0
        · exact ⟨16, 12, .inl ⟨h0, rfl, rfl⟩, by omega, by omega⟩
        · exact ⟨8, 7, .inr ⟨by omega, rfl, rfl⟩, by omega, by omega⟩
      obtain ⟨i, hi⟩ : ∃ i : Nat, i = 2 * k := ⟨_, rfl⟩
      have c0 : w1.cell? ⟨w.heap.size, i, none⟩ = some (.int .i64 (m : Int)) := by
        obtain ⟨bb, oo, cc, ev, -, hcell, -⟩ := hR.cellAt (i := i) (by rw [nI_length]; show i < 4; omega)
        simp only [Value.slice.injEq, Option.some.injEq, Addr.mk.injEq, and_true, true_and] at ev
        obtain ⟨⟨rfl, rfl⟩, -⟩ := ev
        rw [Nat.zero_add] at hcell
        rw [hcell, nI_get, hi]
        rcases hmn with ⟨rfl, rfl, rfl⟩ | ⟨rfl, rfl, rfl⟩ <;> rfl
      have c1 : w1.cell? ⟨w.heap.size, i + 1, none⟩ = some (.int .i64 (n : Int)) := by
        obtain ⟨bb, oo, cc, ev, -, hcell, -⟩ := hR.cellAt (i := i + 1) (by rw [nI_length]; show i + 1 < 4; omega)
        simp only [Value.slice.injEq, Option.some.injEq, Addr.mk.injEq, and_true, true_and] at ev
        obtain ⟨⟨rfl, rfl⟩, -⟩ := ev
        rw [Nat.zero_add] at hcell
        rw [hcell, nI_get, hi]
        rcases hmn with ⟨rfl, rfl, rfl⟩ | ⟨rfl, rfl, rfl⟩ <;> rfl
      have hdI : decide ((i : Int) < 4) = true := decide_eq_true (by omega)
      have hiI : (i : Int) < 4 := by omega
      have hi1 : (i : Int) + 1 < 4 := by omega
      have hin : i < 4 := by omega
      have hi1n : i + 1 < 4 := by omega
      obtain ⟨s1, hs1⟩ : ∃ z : Nat, z = a + b := ⟨_, rfl⟩
      obtain ⟨a', ha'⟩ : ∃ z : Nat, z = s1 % 4294967296 := ⟨_, rfl⟩
      have e1 : IntKind.u64.wrap ((a : Int) + (b : Int)) = (s1 : Int) := by rw [IntKind.wrap_u64]; omega
      have e2 : ((s1 : Nat) : Int).tmod 4294967296 = (a' : Int) := by rw [Int.tmod_eq_emod_of_nonneg (by omega)]; omega
      have hab : a' < 4294967296 := by omega
      have e3 : IntKind.u64.wrap (a' : Int) = (a' : Int) := by rw [IntKind.wrap_u64]; omega
      obtain ⟨x1, hx1⟩ : ∃ z : Nat, z = d ^^^ a' := ⟨_, rfl⟩
      have hx1b : x1 < 4294967296 := by rw [hx1]; exact xor32 hd hab
      have e4 : bits .xor .u64 (d : Int) (a' : Int) = (x1 : Int) := by rw [u64_xor_nat d a' (by omega) (by omega), hx1]
      obtain ⟨d', hd'⟩ : ∃ z : Nat, z = trn x1 m := ⟨_, rfl⟩
      have hdb : d' < 4294967296 := by rw [hd']; exact trn_lt hx1b _
      obtain ⟨s2, hs2⟩ : ∃ z : Nat, z = c + d' := ⟨_, rfl⟩
      obtain ⟨c', hc'⟩ : ∃ z : Nat, z = s2 % 4294967296 := ⟨_, rfl⟩
      have e5 : IntKind.u64.wrap ((c : Int) + (d' : Int)) = (s2 : Int) := by rw [IntKind.wrap_u64]; omega
      have e6 : ((s2 : Nat) : Int).tmod 4294967296 = (c' : Int) := by rw [Int.tmod_eq_emod_of_nonneg (by omega)]; omega
      have hcb : c' < 4294967296 := by omega
      have e7 : IntKind.u64.wrap (c' : Int) = (c' : Int) := by rw [IntKind.wrap_u64]; omega
      obtain ⟨x2, hx2⟩ : ∃ z : Nat, z = b ^^^ c' := ⟨_, rfl⟩
      have hx2b : x2 < 4294967296 := by rw [hx2]; exact xor32 hb hcb
      have e8 : bits .xor .u64 (b : Int) (c' : Int) = (x2 : Int) := by rw [u64_xor_nat b c' (by omega) (by omega), hx2]
      have e9 : IntKind.i64.wrap ((i : Int) + 1) = ((i + 1 : Nat) : Int) := IntWalk.i64_in _ (by omega)
      have e10 : IntKind.i64.wrap ((i : Int) + 2) = ((2 * (k + 1) : Nat) : Int) := by
        rw [show (i : Int) + 2 = ((2 * (k + 1) : Nat) : Int) by omega]
        exact IntWalk.i64_in _ (by omega)
      have HN : Hid ((⟨a', trn x2 n, c', d'⟩ : Q4) = qk q (k + 1)) := by
        show _ = _
        rw [← qk_next q k m n hmn, ← HP.out]
        unfold qh
        simp only
        rw [← hs1, ← ha', ← hx1, ← hd', ← hs2, ← hc', ← hx2]
      have hki : k + 1 ≤ 2 := by omega
      have HD' : Hid _ := hd'
      have HI : Hid _ := hi
      rw [← hi]
      clear hs1 ha' hx1 hd' hs2 hc' hx2 HP hmn hi ha hb hc hd
      go_wp2_with fail
      refine (turnR_any x1 m hx1b hm32 _ _ rfl rfl _).mono ?_
      rintro e w2 ⟨rfl, rfl⟩
      rw [← HD'.out]
      go_wp2_with fail
      refine (turnR_any x2 n hx2b hn32 _ _ rfl rfl _).mono ?_
      rintro e w2 ⟨rfl, rfl⟩
      go_wp2
      go_round
      case rel => exact ⟨k + 1, ⟨a', trn x2 n, c', d'⟩, hki, by first | rfl | go_num, rfl, rfl, rfl, rfl, HN⟩
      case measure =>
        have := HI.out
        simp [intOf] <;> omega
    · have hke : k = 2 := by omega
      subst hke
      have HP2 : Hid ((⟨a, b, c, d⟩ : Q4) = qr q) := HP
      clear HP
      go_wp2
      refine bodyPost_ret (v := .tuple #[.int .u64 (a : Int), .int .u64 (b : Int), .int .u64 (c : Int), .int .u64 (d : Int)]) (by simp [results, Tryd.results72, go_sem]) rfl ?_
      exact ⟨by rw [← HP2.out], hbw⟩
end Go.Proofs.YtliiofjcghdjoaaDoor
