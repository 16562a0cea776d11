/- What the law SpongeNone answers at every input: the walk. -/
import Derived.Test.YthajkimmnceoiaaDoorS03h
namespace Go.Proofs.YthajkimmnceoiaaDoor
open Go.ChangeShapes Go.WideShapes Go.ChangeAt Go.RowKit
set_option linter.unusedSimpArgs false
set_option linter.unusedVariables false

theorem pcL_cat (f : Nat → Nat) (r a b k : Nat) (h : a + b = k) : (pcL f r 0 k == ((⟨(pcL f r 0 a).toArray⟩ : ByteArray) ++ ⟨(pcL f r a b).toArray⟩).toList) = true := by
  subst h
  rw [str_cat, str_toList, pcL_first, pcL_first, otL_pcL]
  simp

set_option maxRecDepth 100000 in
set_option maxHeartbeats 2000000 in
theorem none_walk (vb : Value) (l : List UInt8) (n : Int) (w : World) (hr : Rd w vb l) (ht : Tabs w) :
    Calls Tryd.prog 6 #[vb, .int .i64 n] w fun e w' => e = .returned (.bool true) ∧ Below w.heap.size w w' := by
  obtain ⟨a, cap, rfl, h2, h3, h4, -⟩ := id hr
  unfold maxLen at h3
  have hk2 := ht.two
  by_cases hlen : l.length ≤ 1000
  · have d1 : decide ((1000 : Int) < (l.length : Int)) = false := decide_eq_false (by omega)
    have g1 : (l.length : Int) ≤ 1000 := by omega
    by_cases hn : n ≤ 1000
    · have d2 : decide ((1000 : Int) < n) = false := decide_eq_false (by omega)
      obtain ⟨k, hk⟩ : ∃ k : Nat, k = n.toNat := ⟨_, rfl⟩
      obtain ⟨h, hh⟩ : ∃ h : Nat, h = k / 2 := ⟨_, rfl⟩
      obtain ⟨h', hh'⟩ : ∃ h' : Nat, h' = k - h := ⟨_, rfl⟩
      have kq : (k : Int).tdiv 2 = (h : Int) := by rw [Int.tdiv_eq_ediv_of_nonneg (by omega)]; omega
      have hw1 : IntKind.i64.wrap (h : Int) = (h : Int) := IntWalk.i64_in _ (by omega)
      have hw2 : IntKind.i64.wrap ((k : Int) - (h : Int)) = (h' : Int) := by rw [IntWalk.i64_in _ (by omega)]; omega
      have hhk : h + h' = k := by omega
      have hkb : k ≤ 1000 := by omega
      have HK : Hid (k = n.toNat) := hk
      have HH : Hid (h + h' = k) := hhk
      have hcase : (n < 0 ∧ decide (n < 0) = true ∧ (0 : Int) = (k : Int)) ∨ (0 ≤ n ∧ decide (n < 0) = false ∧ n = (k : Int)) := by
        by_cases h0 : n < 0
        · exact .inl ⟨h0, decide_eq_true h0, by omega⟩
        · exact .inr ⟨by omega, decide_eq_false h0, by omega⟩
      have hhb : h ≤ 1000 := by omega
      have hhb' : h' ≤ 1000 := by omega
      clear hk hh hh' hhk
      go_enter Tryd.func6, Tryd.ntmps6
      go_wp2_with fail
      refine (awake_any _ ht).mono ?_
      rintro e w1 ⟨rfl, hB1⟩
      have hr1 := hr.kept hB1
      have ht1 := ht.kept hB1
      have z1 := hB1.size
      clear hr ht
      go_wp2_with fail
      refine (shake256_any _ l _ hr1 ht1).mono ?_
      rintro e w2 ⟨gx, rfl, hgx, hX2, hB2⟩
      have hr2 := hr1.kept hB2
      have ht2 := ht1.kept hB2
      have z2 := hB2.size
      have lx := hX2.lt
      have hb2 := stepB hB1 hB2
      go_wp2_with fail
      refine (shake256_any _ l _ hr2 ht2).mono ?_
      rintro e w3 ⟨gy, rfl, hgy, hY3, hB3⟩
      have ht3 := ht2.kept hB3
      have z3 := hB3.size
      have ly := hY3.lt
      have hX3 := hX2.kept hB3
      have hb3 := stepB hb2 hB3
      clear hX2 ht2 hB2 hr2 hB1 hr1 ht1 hb2 hB3
      go_wp2_with fail
      refine (read_any gx (abF 136 31 l) (abF_lt _ _ _) 136 0 (by omega) (by omega) n k HK.out (by omega) _ hX3 (by omega) ht3).mono ?_
      rintro e w4 ⟨vu, rfl, hOu, hX4, hC4, ht4⟩
      have hY4 := hY3.chg hC4 (by omega)
      have hb4 := hC4.past hb3 (by omega) (by omega)
      have z4 := hC4.size
      clear hX3 hY3 hb3 ht3 hX4 hC4
      have hlen4 := pcL_length (abF 136 31 l) 136 0 k
      obtain ⟨au, cu, rfl, -, -, -, -⟩ := id (Rd.of_row hOu)
      rw [hlen4] at hOu ⊢
      rcases hcase with ⟨hn0, d3, hkn⟩ | ⟨hn0, d3, hkn⟩
      · obtain rfl : k = 0 := by omega
        obtain ⟨rfl, rfl⟩ : h = 0 ∧ h' = 0 := by have := HH.out; omega
        clear hkn kq hw1 hw2 hlen4
        have kq : (0 : Int).tdiv 2 = 0 := rfl
        go_wp2_with fail
        refine (read_any gy (abF 136 31 l) (abF_lt _ _ _) 136 0 (by omega) (by omega) 0 0 rfl (by omega) _ hY4 (by omega) ht4).mono ?_
        rintro e w5 ⟨vv, rfl, hOv, hY5, hC5, ht5⟩
        have hOu5 := own_past hOu hC5 (by omega)
        have hb5 := hC5.past hb4 (by omega) (by omega)
        have z5 := hC5.size
        go_wp2_with fail
        refine (read_any gy (abF 136 31 l) (abF_lt _ _ _) 136 _ (by omega) (by omega) 0 0 rfl (by omega) _ hY5 (by omega) ht5).mono ?_
        rintro e w6 ⟨vw, rfl, hOw, hY6, hC6, ht6⟩
        have hOu6 := own_past hOu5 hC6 (by omega)
        have hOv6 := own_past hOv hC6 (by omega)
        have hb6 := hC6.past hb5 (by omega) (by omega)
        have s1 := convS (Rd.of_row hOu6)
        have s2 := convS (Rd.of_row hOv6)
        have s3 := convS (Rd.of_row hOw)
        go_wp2_with fail
        refine (read_nil n _).mono ?_
        rintro e w7 ⟨rfl, rfl⟩
        have HB : Hid _ := hb6
        have HC : Hid _ := pcL_cat (abF 136 31 l) 136 0 0 0 rfl
        go_wp2
        go_ret
        exact ⟨congrArg (fun b => Ending.returned (.bool b)) HC.out, HB.out⟩
      · subst hkn
        have HC : Hid ((pcL (abF 136 31 l) 136 0 k == pcL (abF 136 31 l) 136 0 h ++ pcL (abF 136 31 l) 136 h h') = true) := by
          have := pcL_cat (abF 136 31 l) 136 h h' k HH.out
          rwa [str_cat, str_toList] at this
        have hh2 : h = (h : Int).toNat := by omega
        have hh3 : h' = (h' : Int).toNat := by omega
        have HH2 : Hid (h = (h : Int).toNat) := hh2
        have HH3 : Hid (h' = (h' : Int).toNat) := hh3
        clear hh2 hh3 hlen4
        go_wp2_with fail
        refine (read_any gy (abF 136 31 l) (abF_lt _ _ _) 136 0 (by omega) (by omega) (h : Int) h HH2.out (by omega) _ hY4 (by omega) ht4).mono ?_
        rintro e w5 ⟨vv, rfl, hOv, hY5, hC5, ht5⟩
        rw [Nat.zero_add] at hY5
        have hOu5 := own_past hOu hC5 (by omega)
        have hb5 := hC5.past hb4 (by omega) (by omega)
        have z5 := hC5.size
        go_wp2_with fail
        refine (read_any gy (abF 136 31 l) (abF_lt _ _ _) 136 h (by omega) (by omega) (h' : Int) h' HH3.out (by omega) _ hY5 (by omega) ht5).mono ?_
        rintro e w6 ⟨vw, rfl, hOw, hY6, hC6, ht6⟩
        have hOu6 := own_past hOu5 hC6 (by omega)
        have hOv6 := own_past hOv hC6 (by omega)
        have hb6 := hC6.past hb5 (by omega) (by omega)
        have s1 := convS (Rd.of_row (l := pcL (abF 136 31 l) 136 0 k) (by rw [pcL_length]; exact hOu6))
        have s2 := convS (Rd.of_row hOv6)
        have s3 := convS (Rd.of_row hOw)
        have l2 := pcL_length (abF 136 31 l) 136 0 h
        have l3 := pcL_length (abF 136 31 l) 136 h h'
        have hadd := fun W => run_string_add_lists (P := Tryd.prog) W (pcL (abF 136 31 l) 136 0 h) (pcL (abF 136 31 l) 136 h h') (by omega) (by omega)
        go_wp2_with fail
        refine (read_nil (k : Int) _).mono ?_
        rintro e w7 ⟨rfl, rfl⟩
        have HB : Hid _ := hb6
        go_wp2
        go_ret
        exact ⟨congrArg (fun b => Ending.returned (.bool b)) HC.out, HB.out⟩
    · have d2 : decide ((1000 : Int) < n) = true := decide_eq_true (by omega)
      have g2 : (1000 : Int) < n := by omega
      go_enter Tryd.func6, Tryd.ntmps6
      go_wp2_with fail
      refine (awake_any _ ht).mono ?_
      rintro e w1 ⟨rfl, hB1⟩
      go_wp2
      go_ret
      exact ⟨rfl, hB1⟩
  · have d1 : decide ((1000 : Int) < (l.length : Int)) = true := decide_eq_true (by omega)
    have g1 : (1000 : Int) < l.length := by omega
    go_enter Tryd.func6, Tryd.ntmps6
    go_wp2_with fail
    refine (awake_any _ ht).mono ?_
    rintro e w1 ⟨rfl, hB1⟩
    go_wp2
    go_ret
    exact ⟨rfl, hB1⟩
end Go.Proofs.YthajkimmnceoiaaDoor
