/- What the turning of a word, a quarter round and the look at two lengths answer: contracts of package chacha, first part. -/
import Derived.Test.YtliiofjcghdjoaaDoorRef07a
import Derived.Test.YtliiofjcghdjoaaDoorWords
import Derived.Test.YtliiofjcghdjoaaDoorBase
import Derived.Laws.BitsAllLaws
namespace Go.Proofs.YtliiofjcghdjoaaDoor
open Go.ChangeShapes Go.WideShapes Go.ChangeAt Go.RowKit
set_option linter.unusedSimpArgs false
set_option linter.unusedVariables false

theorem or_turn32 (x n : Nat) (hx : x < 4294967296) (hn : n ≤ 32) : (x * 2 ^ n % 4294967296) ||| (x / 2 ^ (32 - n)) = trn x n := by
  have h32 : (4294967296 : Nat) = 2 ^ n * 2 ^ (32 - n) := by rw [← Nat.pow_add, show n + (32 - n) = 32 by omega]
  have hB : x / 2 ^ (32 - n) < 2 ^ n := by
    refine Nat.div_lt_of_lt_mul ?_
    rw [Nat.mul_comm, ← h32]
    exact hx
  have hd : x * 2 ^ n / 4294967296 = x / 2 ^ (32 - n) := by
    rw [h32, Nat.mul_comm x, Nat.mul_div_mul_left _ _ (Nat.pow_pos (by decide))]
  rw [trn_eq hx n hn, hd, h32, Nat.mul_comm x, Nat.mul_mod_mul_left, Nat.two_pow_add_eq_or_of_lt hB]
theorem and31 (n : Nat) (hn : n < 32) : bits .and .u64 (n : Int) 31 = (n : Int) := by
  have h := u64_and_nat n 31 (by omega) (by decide)
  rw [show ((31 : Int)) = ((31 : Nat) : Int) from rfl, h, show (31 : Nat) = 2 ^ 5 - 1 from rfl, Nat.and_two_pow_sub_one_eq_mod, Nat.mod_eq_of_lt (by omega)]

set_option maxHeartbeats 400000 in
theorem rot32_any (x n : Nat) (X B : Int) (hX : X = x) (hB : B = n) (hx : x < 4294967296) (hn : n < 32) (w : World) :
    Calls Tryd.prog 91 #[.int .u32 X, .int .i64 B] w fun e w' => e = .returned (.int .u32 ((trn x n : Nat) : Int)) ∧ w' = w := by
  subst hX hB
  have ha := and31 n hn
  have HN : Hid (((32 : Int) - (n : Int)).toNat = 32 - n) := by show Int.toNat _ = _; omega
  have HE : Hid _ := or_turn32 x n hx (by omega)
  go_enter Tryd.func91, Tryd.ntmps91
  go_wp2
  go_ret
  refine ⟨retI ?_, rfl⟩
  have e1 : ((x : Int) * 2 ^ n) = ((x * 2 ^ n : Nat) : Int) := by simp
  have e2 : ((x : Int) / 2 ^ (32 - n)) = ((x / 2 ^ (32 - n) : Nat) : Int) := by simp
  rw [e1, e2, show ((x * 2 ^ n : Nat) : Int) % 4294967296 = ((x * 2 ^ n % 4294967296 : Nat) : Int) by omega, u32_or_nat _ _ (Nat.mod_lt _ (by decide)) (Nat.lt_of_le_of_lt (Nat.div_le_self _ _) hx), HE.out]

/-- A word's sum and difference, as the machine reckons them. -/
theorem half07_facts (p : Q4) (h : p.ok) (m n : Nat) : ∃ a x d c y b : Nat, IntKind.u32.wrap ((p.a : Int) + (p.b : Int)) = (a : Int) ∧ bits .xor .u32 (p.d : Int) (a : Int) = (x : Int) ∧ x < 4294967296 ∧ d = trn x m ∧
    IntKind.u32.wrap ((p.c : Int) + (d : Int)) = (c : Int) ∧ bits .xor .u32 (p.b : Int) (c : Int) = (y : Int) ∧ y < 4294967296 ∧ b = trn y n ∧ qh p m n = ⟨a, b, c, d⟩ := by
  obtain ⟨h1, h2, h3, h4⟩ := h
  refine ⟨(p.a + p.b) % 4294967296, p.d ^^^ ((p.a + p.b) % 4294967296), trn (p.d ^^^ ((p.a + p.b) % 4294967296)) m, (p.c + trn (p.d ^^^ ((p.a + p.b) % 4294967296)) m) % 4294967296, p.b ^^^ ((p.c + trn (p.d ^^^ ((p.a + p.b) % 4294967296)) m) % 4294967296), _, ?_, ?_, ?_, rfl, ?_, ?_, ?_, rfl, rfl⟩
  · rw [IntKind.wrap_u32']; omega
  · exact u32_xor_nat _ _ h4 (mod32 _)
  · exact xor32 h4 (mod32 _)
  · rw [IntKind.wrap_u32']; omega
  · exact u32_xor_nat _ _ h2 (mod32 _)
  · exact xor32 h2 (mod32 _)

set_option maxRecDepth 100000 in
set_option maxHeartbeats 2000000 in
theorem quarter_any (q : Q4) (hq : q.ok) (A B C D : Int) (hA : A = (q.a : Int)) (hB : B = (q.b : Int)) (hC : C = (q.c : Int)) (hD : D = (q.d : Int)) (w : World) :
    Calls Tryd.prog 88 #[.int .u32 A, .int .u32 B, .int .u32 C, .int .u32 D] w fun e w' => e = .returned (.tuple #[.int .u32 ((qr q).a : Int), .int .u32 ((qr q).b : Int), .int .u32 ((qr q).c : Int), .int .u32 ((qr q).d : Int)]) ∧ w' = w := by
  subst hA hB hC hD
  obtain ⟨a1, x1, d1, c1, y1, b1, e1, e2, hx1, hd1, e3, e4, hy1, hb1, HH⟩ := half07_facts q hq 16 12
  have hok := qh_ok hq 16 12
  rw [HH] at hok
  obtain ⟨a2, x2, d2, c2, y2, b2, f1, f2, hx2, hd2, f3, f4, hy2, hb2, HH2⟩ := half07_facts _ hok 8 7
  simp only at f1 f2 f3 f4
  have HQ : Hid (qr q = ⟨a2, b2, c2, d2⟩) := by
    show _ = _
    unfold qr
    rw [HH, HH2]
  have HD1 : Hid _ := hd1
  have HB1 : Hid _ := hb1
  have HD2 : Hid _ := hd2
  have HB2 : Hid _ := hb2
  clear hd1 hb1 hd2 hb2 HH HH2 hok hq
  go_enter Tryd.func88, Tryd.ntmps88
  go_wp2_with fail
  refine (rot32_any x1 16 _ _ rfl rfl hx1 (by decide) _).mono ?_
  rintro e w2 ⟨rfl, rfl⟩
  rw [← HD1.out]
  go_wp2_with fail
  refine (rot32_any y1 12 _ _ rfl rfl hy1 (by decide) _).mono ?_
  rintro e w2 ⟨rfl, rfl⟩
  rw [← HB1.out]
  go_wp2_with fail
  refine (rot32_any x2 8 _ _ rfl rfl hx2 (by decide) _).mono ?_
  rintro e w2 ⟨rfl, rfl⟩
  rw [← HD2.out]
  go_wp2_with fail
  refine (rot32_any y2 7 _ _ rfl rfl hy2 (by decide) _).mono ?_
  rintro e w2 ⟨rfl, rfl⟩
  rw [← HB2.out]
  go_wp2
  refine bodyPost_ret (v := .tuple #[.int .u32 (a2 : Int), .int .u32 (b2 : Int), .int .u32 (c2 : Int), .int .u32 (d2 : Int)]) (by simp [results, Tryd.results88, go_sem]) rfl ?_
  exact ⟨by rw [HQ.out], rfl⟩

set_option maxHeartbeats 400000 in
theorem fit_any (vk vn : Value) (k n : List UInt8) (w : World) (hk : Rd w vk k) (hn : Rd w vn n) :
    Calls Tryd.prog 64 #[vk, vn] w fun e w' => e = .returned (.bool (decide (k.length = 32 ∧ n.length = 12))) ∧ w' = w := by
  obtain ⟨ak, ck, rfl, hck, -, -⟩ := hk
  obtain ⟨an, cn, rfl, hcn, -, -⟩ := hn
  by_cases h : k.length = 32
  · have HE : Hid (((n.length : Int) == 12) = decide (k.length = 32 ∧ n.length = 12)) := by
      show _ = _
      by_cases h2 : n.length = 12 <;> simp [h, h2] <;> omega
    have hd : ((k.length : Int) == 32) = true := by simp [h]
    go_enter Tryd.func64, Tryd.ntmps64
    go_wp2
    go_ret
    exact ⟨congrArg (fun b => Ending.returned (.bool b)) HE.out, rfl⟩
  · have hd : ((k.length : Int) == 32) = false := by simp; omega
    have HE : Hid (false = decide (k.length = 32 ∧ n.length = 12)) := by
      show _ = _
      simp [h]
    go_enter Tryd.func64, Tryd.ntmps64
    go_wp2
    go_ret
    exact ⟨congrArg (fun b => Ending.returned (.bool b)) HE.out, rfl⟩
end Go.Proofs.YtliiofjcghdjoaaDoor
