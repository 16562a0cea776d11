/- What the law PolyShort answers at every input: the walk. -/
import Derived.Test.YtcelhlpopdcaaaaDoorP08g
namespace Go.Proofs.YtcelhlpopdcaaaaDoor
open Go.ChangeShapes Go.WideShapes Go.ChangeAt Go.RowKit
set_option linter.unusedSimpArgs false
set_option linter.unusedVariables false

theorem one_u8 {A : Int} (h : (Lit.int .u8 A).wf = true) : ∃ a : UInt8, A = (a.toNat : Int) := by
  have := bounds_u8 h
  refine ⟨UInt8.ofNat A.toNat, ?_⟩
  rw [UInt8.toNat_ofNat']
  omega
theorem one_u64 {A : Int} (h : (Lit.int .u64 A).wf = true) : ∃ a : Nat, A = (a : Int) ∧ a < 18446744073709551616 := by
  have := bounds_u64 h
  exact ⟨A.toNat, by omega, by omega⟩
/-- The key 1, with so many bytes of a number in its second half. -/
def shK (n i : Nat) : List UInt8 := 1 :: (List.replicate 15 0 ++ ((List.range i).map (stB n) ++ List.replicate (16 - i) 0))
theorem shK_length (n i : Nat) (hi : i ≤ 16) : (shK n i).length = 32 := by simp [shK]; omega
theorem shK_zero (n : Nat) : (List.replicate 32 (0 : UInt8)).set 0 1 = shK n 0 := rfl
theorem shK_done (n : Nat) : shK n 7 = onK n := rfl
theorem shK_set (n i : Nat) (hi : i < 16) : (shK n i).set (16 + i) (stB n i) = shK n (i + 1) := by
  unfold shK
  rw [show 16 + i = (15 + i) + 1 by omega, List.set_cons_succ, List.set_append_right _ _ (by simp), List.length_replicate, show 15 + i - 15 = i by omega, List.set_append_right _ _ (by simp), List.length_map, List.length_range, Nat.sub_self,
    show 16 - i = (16 - (i + 1)) + 1 by omega, List.replicate_succ (n := 16 - (i + 1)), List.set_cons_zero, List.range_succ, List.map_append, List.append_assoc]
  rfl
theorem shl_byte (x : UInt8) (i : Nat) (hi : i < 8) : IntKind.u64.wrap ((x.toNat : Int) * 2 ^ (8 * i)) = ((256 ^ i * x.toNat : Nat) : Int) := by
  have hx := x.toNat_lt
  have h1 : 256 ^ i * x.toNat < 18446744073709551616 := by
    have h2 : 256 ^ i ≤ 256 ^ 7 := Nat.pow_le_pow_right (by decide) (by omega)
    have h3 : 256 ^ i * x.toNat ≤ 256 ^ 7 * 255 := Nat.mul_le_mul h2 (by omega)
    omega
  have e : (x.toNat : Int) * 2 ^ (8 * i) = ((256 ^ i * x.toNat : Nat) : Int) := by
    rw [show (256 : Nat) = 2 ^ 8 from rfl, ← Nat.pow_mul, Int.natCast_mul, Int.natCast_pow, Int.mul_comm]
    rfl
  rw [e, IntKind.wrap_u64]
  omega
theorem mask56 (x : Nat) (hx : x < 18446744073709551616) : bits .and .u64 (x : Int) 72057594037927935 = ((x % 72057594037927936 : Nat) : Int) := by
  have := u64_and_nat x 72057594037927935 hx (by decide)
  rw [show (72057594037927935 : Int) = ((72057594037927935 : Nat) : Int) from rfl, this, show (72057594037927935 : Nat) = 2 ^ 56 - 1 from rfl, Nat.and_two_pow_sub_one_eq_mod]
theorem take_stB (N : Nat) (hN : N < 18446744073709551616) : leN (((List.range 16).map (stB N)).take 8) = N := by
  rw [← List.map_take, List.take_range, show min 8 16 = 8 from rfl, leN_stB]
  exact Nat.mod_eq_of_lt hN

set_option maxRecDepth 100000 in
set_option maxHeartbeats 4000000 in
theorem short_walk (C S : Int) (hC : (Lit.int .u8 C).wf = true) (hS : (Lit.int .u64 S).wf = true) (w : World) (ht : KpT w) :
    Calls Tryd.prog 6 #[.int .u8 C, .int .u64 S] w fun e w' => e = .returned (.bool true) ∧ Below w.heap.size w w' := by
  obtain ⟨ti, hti, hz0, hz1, hz2⟩ := info_parts info5
  obtain ⟨c, rfl⟩ := one_u8 hC
  obtain ⟨s, rfl, hs⟩ := one_u64 hS
  have hc := c.toNat_lt
  clear hC hS
  go_enter Tryd.func6, Tryd.ntmps6
  go_wp2_with fail
  refine (awake_any _ ht).mono ?_
  rintro e w1 ⟨rfl, b1⟩
  have HT : Hid (KpT w1) := ht.kept b1
  have HB1 : Hid _ := b1
  clear ht b1
  go_wp2_with (at_make; go_must (refine wpList_make_full _ rfl _ _ 22 rfl w1.heap.size 5 ti _ 1 Tryd.underlying22 hti hz0 hz1 _ _ _ _ 32 rfl rfl rfl rfl (by rw [hz2]; omega) (by unfold maxLen; omega) (Nat.le_refl _) ?_))
  intro w2 hown hgr
  have hN1 := New.made hown hgr
  obtain ⟨g', c', ev, -, hcell, hfree, hset⟩ := hN1.store (j := 0) (by simp)
  simp only [Value.slice.injEq, Option.some.injEq, Addr.mk.injEq, and_true, true_and] at ev
  obtain ⟨rfl, -, rfl⟩ := ev
  have hN2 := hset 1
  rw [shK_zero s] at hN2
  clear hset hN1 hown hgr
  go_wp2
  go_loopw [7] (fun iv wx => ∃ i : Nat, i ≤ 7 ∧ iv = .int .i64 (i : Int) ∧ New 5 w1 (.slice (some ⟨w1.heap.size, 0, none⟩) 32 32) (shK s i) wx) (fun iv _ => 7 - (intOf iv).toNat)
  case atStart => exact ⟨0, by omega, rfl, hN2⟩
  case round =>
    obtain ⟨i, hi, rfl, hN⟩ := hrel
    clear hN2 hcell hfree
    by_cases hlt : i < 7
    · have hd : decide ((i : Int) < 7) = true := decide_eq_true (by omega)
      have hiI : (i : Int) < 7 := by omega
      obtain ⟨g', c', ev, -, hcell, hfree, hset⟩ := hN.store (j := 16 + i) (by rw [shK_length s i (by omega)]; omega)
      simp only [Value.slice.injEq, Option.some.injEq, Addr.mk.injEq, and_true, true_and] at ev
      obtain ⟨rfl, -, rfl⟩ := ev
      have hNn := hset (stB s i)
      rw [shK_set s i (by omega)] at hNn
      have hsh := stB_shr s i
      obtain ⟨p, hp⟩ : ∃ n : Nat, n = 16 + i := ⟨_, rfl⟩
      rw [← hp] at hcell hfree hNn
      obtain ⟨m8, hm8⟩ : ∃ n : Nat, n = 8 * i := ⟨_, rfl⟩
      rw [← hm8] at hsh
      have x1 : IntKind.i64.wrap (16 + (i : Int)) = (p : Int) := by rw [show 16 + (i : Int) = (p : Int) by omega]; exact IntWalk.i64_in _ (by omega)
      have x2 : IntKind.i64.wrap (8 * (i : Int)) = (m8 : Int) := by rw [show 8 * (i : Int) = (m8 : Int) by omega]; exact IntWalk.i64_in _ (by omega)
      have x3 : IntKind.u64.wrap (m8 : Int) = (m8 : Int) := by rw [IntKind.wrap_u64]; omega
      have x4 : m8 < 64 := by omega
      have x5 : (p : Int) < 32 := by omega
      have x6 : p < 32 := by omega
      generalize (stB s i).toNat = y at hNn hsh
      clear hset hN hp hm8
      go_wp2
      go_roundw
      case rel => exact ⟨i + 1, by omega, by go_num, hNn⟩
      case measure => simp [intOf] <;> omega
    · have hie : i = 7 := by omega
      have hd : decide ((i : Int) < 7) = false := decide_eq_false (by omega)
      have hiI : (7 : Int) ≤ (i : Int) := by omega
      rw [hie, shK_done] at hN
      have hK : Rd wr (.slice (some ⟨w1.heap.size, 0, none⟩) 32 32) (onK s) := hN.rd
      have hb := stepB HB1.out hN.2
      have hT2 : KpT wr := HT.out.kept hN.2
      have g5 := growB (w := wr) (.cells #[.int .u8 (c.toNat : Int)] 5)
      have HR5 : Hid (Rd (wr.alloc (.cells #[.int .u8 (c.toNat : Int)] 5)) (.slice (some ⟨wr.heap.size, 0, none⟩) 1 1) [c]) := Rd.lit1 c rfl
      have HK5 : Hid (Rd _ (.slice (some ⟨w1.heap.size, 0, none⟩) 32 32) (onK s)) := hK.kept g5
      have HT5 : Hid (KpT _) := hT2.kept g5
      have HB5 : Hid _ := stepB hb g5
      clear hN hie hK hb hT2 g5
      go_wp2_with fail
      refine (pmac_any _ _ (onK s) [c] _ HT5.out HK5.out HR5.out (onK_length s)).mono ?_
      rintro e w6 ⟨vm, rfl, hNm⟩
      rw [mcP_onK] at hNm
      have HB6 : Hid _ := stepB HB5.out hNm.2
      obtain ⟨t, ht⟩ : ∃ t : Nat, t = s % 72057594037927936 := ⟨_, rfl⟩
      rw [← ht] at hNm
      have htl : t < 72057594037927936 := by rw [ht]; exact Nat.mod_lt _ (by decide)
      have hmk := mask56 s hs
      rw [← ht] at hmk
      obtain ⟨N, hNd⟩ : ∃ N : Nat, N = c.toNat + 256 + t := ⟨_, rfl⟩
      rw [← hNd] at hNm
      have hRm : Rd w6 vm ((List.range 16).map (stB N)) := hNm.rd
      have HTk : Hid (leN (((List.range 16).map (stB N)).take 8) = N) := take_stB N (by omega)
      have hlen : ((List.range 16).map (stB N)).length = 16 := by simp
      obtain ⟨bm, om, cm, ev, hcapm, hmxm, hcm⟩ := hRm.cells (by rw [hlen]; decide)
      subst ev
      rw [hlen] at hcm ⊢
      have HLen : Hid _ := hlen
      have HCm : Hid _ := hcm
      generalize (List.range 16).map (stB N) = x at HTk HCm HLen
      have e1 : IntKind.u64.wrap ((t : Int) + (c.toNat : Int)) = ((t + c.toNat : Nat) : Int) := by rw [IntKind.wrap_u64]; omega
      have e2 : IntKind.u64.wrap (((t + c.toNat : Nat) : Int) + 256) = (N : Int) := by rw [IntKind.wrap_u64]; omega
      have e3 : IntKind.u64.wrap (c.toNat : Int) = (c.toNat : Int) := by rw [IntKind.wrap_u64]; omega
      generalize t + c.toNat = t2 at e1 e2
      generalize c.toNat = cc at e1 e3
      clear hNm hRm hlen hcm hcapm hmxm ht htl hNd HK5 HT5 HR5 HB5
      have HNB : Hid (N < 18446744073709551616) := by
        show _ < _
        rw [← HTk.out]
        exact leN_take_lt _ 8 (by omega)
      go_wp2_with fail
      go_loop [9, 10] (fun nv iv => ∃ i : Nat, i ≤ 8 ∧ iv = .int .i64 (i : Int) ∧ nv = .int .u64 ((leN (x.take i) : Nat) : Int)) (fun _ iv => 8 - (intOf iv).toNat)
      case atStart => exact ⟨0, by omega, rfl, rfl⟩
      case round =>
        obtain ⟨j, hj, rfl, rfl⟩ := hrel
        by_cases hltj : j < 8
        · have hdj : decide ((j : Int) < 8) = true := decide_eq_true (by omega)
          have hdk : decide ((j : Int) < 16) = true := decide_eq_true (by omega)
          have hjI : (j : Int) < 8 := by omega
          have hjJ : (j : Int) < 16 := by omega
          have hcj := HCm.out j (by omega)
          have hst := leN_take_succ x j (by rw [HLen.out]; omega)
          have hlt8 := leN_take_lt x (j + 1) (by omega)
          have hsl := shl_byte (x.getD j 0) j hltj
          obtain ⟨m8, hm8⟩ : ∃ n : Nat, n = 8 * j := ⟨_, rfl⟩
          rw [← hm8] at hsl
          have x2 : IntKind.i64.wrap (8 * (j : Int)) = (m8 : Int) := by rw [show 8 * (j : Int) = (m8 : Int) by omega]; exact IntWalk.i64_in _ (by omega)
          have x3 : IntKind.u64.wrap (m8 : Int) = (m8 : Int) := by rw [IntKind.wrap_u64]; omega
          have x4 : m8 < 64 := by omega
          have hb8 := (x.getD j 0).toNat_lt
          have x5 : IntKind.u64.wrap ((x.getD j 0).toNat : Int) = ((x.getD j 0).toNat : Int) := by rw [IntKind.wrap_u64]; omega
          obtain ⟨d, hd⟩ : ∃ d : Nat, d = 256 ^ j * (x.getD j 0).toNat := ⟨_, rfl⟩
          rw [← hd] at hst hsl
          have x6 : IntKind.u64.wrap (((leN (x.take j) : Nat) : Int) + (d : Int)) = ((leN (x.take (j + 1)) : Nat) : Int) := by rw [IntKind.wrap_u64]; omega
          obtain ⟨l1, hl1⟩ : ∃ l : Nat, l = leN (x.take (j + 1)) := ⟨_, rfl⟩
          rw [← hl1] at x6
          have HL1 : Hid _ := hl1
          generalize leN (x.take j) = l0 at x6 hst
          generalize (x.getD j 0).toNat = y at hcj hsl x5
          clear hst hlt8 hm8 hb8 hd hl1
          go_wp2
          go_round
          case rel => exact ⟨j + 1, by omega, by go_num, by rw [HL1.out]⟩
          case measure => simp [intOf] <;> omega
        · have hje : j = 8 := by omega
          have hdj : decide ((j : Int) < 8) = false := decide_eq_false (by omega)
          have hjI : (8 : Int) ≤ (j : Int) := by omega
          rw [hje, HTk.out]
          clear hje
          go_wp2
          go_ret
          exact ⟨rfl, HB6.out⟩
end Go.Proofs.YtcelhlpopdcaaaaDoor
