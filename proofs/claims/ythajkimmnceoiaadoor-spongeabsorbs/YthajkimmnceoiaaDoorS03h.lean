/- That the program is awake: what the sums of nothing begin with. -/
import Derived.Test.YthajkimmnceoiaaDoorS03g
import Derived.Test.YthajkimmnceoiaaDoorSEvA
import Derived.Test.YthajkimmnceoiaaDoorSEvB
import Derived.Test.YthajkimmnceoiaaDoorSEvC
import Derived.Test.YthajkimmnceoiaaDoorSEvD
namespace Go.Proofs.YthajkimmnceoiaaDoor
open Go.ChangeShapes Go.WideShapes Go.ChangeAt Go.RowKit
set_option linter.unusedSimpArgs false
set_option linter.unusedVariables false

theorem convS {w : World} {v : Value} {l : List UInt8} (h : Rd w v l) : (convert 22 9 v).run Tryd.prog w = .ok (.string ⟨l.toArray⟩) w := h.conv Tryd.underlying22 Tryd.underlying5 Tryd.underlying9
theorem c0_and : bits .and .u64 ((abF 136 6 [] 0 : Nat) : Int) 255 = 167 := by
  rw [ka_abs 0 (by decide)]
  decide +kernel
theorem Chg.past {g B : Nat} {a w w' : World} (h : Below B a w) (c : Chg (fun b => b = g) w w') (hB : B ≤ w.heap.size) (hg : B ≤ g) : Below B a w' := c.below h hB fun k _ e => by omega
theorem own_past {g : Nat} {w w' : World} {base : Nat} {e : TypeId} {v : Value} {n : Nat} {xs : List Value} (h : w.ownsRow base e 1 v n xs) (c : Chg (fun b => b = g) w w') (hg : g < base) : w'.ownsRow base e 1 v n xs :=
  own_chg h c fun b hb e => by
    have := (h.lt b hb).1
    omega
theorem New.slice {e : TypeId} {w w' : World} {v : Value} {l : List UInt8} (h : New e w v l w') (hl : l ≠ []) : ∃ g cap, v = .slice (some ⟨g, 0, none⟩) l.length cap ∧ l.length ≤ cap := by
  have hpos : 0 < l.length := List.length_pos_iff.2 hl
  rcases h.1.2 with ⟨h', h0⟩ | ⟨g, cap, cur, h', hb, hg, hn, hm, hs, ht⟩
  · omega
  · exact ⟨g, cap, h', hn⟩

set_option maxRecDepth 100000 in
set_option maxHeartbeats 1000000 in
theorem awake_any (w : World) (ht : Tabs w) : Calls Tryd.prog 8 #[] w fun e w' => e = .returned (.bool true) ∧ Below w.heap.size w w' := by
  have hk2 := ht.two
  go_enter Tryd.func8, Tryd.ntmps8
  go_wp2_with fail
  refine (sum256_any _ [] _ (Rd.nil _) ht).mono ?_
  rintro e w1 ⟨va, rfl, hNa⟩
  have hb1 := hNa.2
  have ht1 := ht.kept hb1
  go_wp2_with fail
  refine (shake128_any _ [] _ (Rd.nil _) ht1).mono ?_
  rintro e w2 ⟨gx, rfl, hgx, hX2, hB2⟩
  have ht2 := ht1.kept hB2
  go_wp2_with fail
  refine (shake256_any _ [] _ (Rd.nil _) ht2).mono ?_
  rintro e w3 ⟨gy, rfl, hgy, hY3, hB3⟩
  have ht3 := ht2.kept hB3
  have hX3 := hX2.kept hB3
  go_wp2_with fail
  refine (sum512_any _ [] _ (Rd.nil _) ht3).mono ?_
  rintro e w4 ⟨vb, rfl, hNb⟩
  have ht4 := ht3.kept hNb.2
  have hX4 := hX3.kept hNb.2
  have hY4 := hY3.kept hNb.2
  go_wp2_with fail
  refine (absorb_any 136 6 6 rfl _ [] _ (Rd.nil _) ht4).mono ?_
  rintro e w5 ⟨rfl, hB5⟩
  have ht5 := ht4.kept hB5
  have hX5 := hX4.kept hB5
  have hY5 := hY4.kept hB5
  have hN5 := hNb.kept hB5
  have hlx := hX2.lt
  have hly := hY3.lt
  have z1 := hb1.size
  have z2 := hB2.size
  have z3 := hB3.size
  have z4 := hNb.2.size
  have z5 := hB5.size
  have hb15 : Below w1.heap.size w1 w5 := stepB (stepB (stepB hB2 hB3) hNb.2) hB5
  clear hX2 hX3 hX4 hY3 hY4 ht ht1 ht2 ht3 ht4 hB2 hB3 hNb hB5
  obtain ⟨ga, ca, rfl, hca⟩ := hNa.slice (by rw [← List.length_pos_iff, otL_length]; omega)
  obtain ⟨gb, cb, rfl, hcb⟩ := hN5.slice (by rw [← List.length_pos_iff, otL_length]; omega)
  have hRa := hNa.rd
  rw [otL_length] at hca hcb hRa
  have hOb := hN5.1
  have e32 := otL_length (abF 136 6 []) 136 32
  have e64 := otL_length (abF 72 6 []) 72 64
  rw [e32, e64]
  clear hNa hN5 e32
  -- the array in its own block
  have r0 : RowAt .u64 26 w5.heap.size 25 (stL fun _ => 0) (w5.alloc (.cells _ 26)) := RowAt.fresh (stL fun _ => 0) zeros25 rfl (stL_length _).symm (stL_ne _) max25
  go_wp2_with (refine wpList_store_row rfl 26 _ _ rfl (stL (abF 136 6 [])) rfl rfl r0 (by simp [stL_length]) (arrInfo _) ?_)
  intro w6 r6 hw6
  have hbx := growB (w := w5) (.cells #[Value.int .u64 0, .int .u64 0, .int .u64 0, .int .u64 0, .int .u64 0, .int .u64 0, .int .u64 0, .int .u64 0, .int .u64 0, .int .u64 0, .int .u64 0, .int .u64 0, .int .u64 0, .int .u64 0, .int .u64 0, .int .u64 0, .int .u64 0, .int .u64 0, .int .u64 0, .int .u64 0, .int .u64 0, .int .u64 0, .int .u64 0, .int .u64 0, .int .u64 0] 26)
  have hb56 := hw6.below _ _ (Nat.le_refl _) hbx
  have z6 := hb56.size
  have l6 := r6.lt
  have hX6 := hX5.kept hb56
  have hY6 := hY5.kept hb56
  have ht6 := ht5.kept hb56
  have hOb6 := ownsRow_below hOb hb56
  have hb16 := stepB hb15 hb56
  clear hX5 hY5 ht5 hOb hb15 hb56 hbx hw6 r0
  go_wp2_with fail
  refine (read_any gx (abF 168 31 []) (abF_lt _ _ _) 168 0 (by omega) (by omega) 4 4 rfl (by omega) _ hX6 (by omega) ht6).mono ?_
  rintro e w7 ⟨vd, rfl, hOd, hX7, hC7, ht7⟩
  have hY7 := hY6.chg hC7 (by omega)
  have hb17 := hC7.past hb16 (by omega) hgx
  have hOb7 := own_past hOb6 hC7 (by omega)
  have r7 := r6.chg hC7 (by omega)
  have z7 := hC7.size
  clear hX6 hY6 hb16 hOb6 r6 hX7 ht6
  go_wp2_with fail
  refine (read_any gy (abF 136 31 []) (abF_lt _ _ _) 136 0 (by omega) (by omega) 4 4 rfl (by omega) _ hY7 (by omega) ht7).mono ?_
  rintro e w8 ⟨ve, rfl, hOe, hY8, hC8, ht8⟩
  have hb18 := hC8.past hb17 (by omega) (by omega)
  have hOb8 := own_past hOb7 hC8 (by omega)
  have hOd8 := own_past hOd hC8 (by omega)
  have r8 := r7.chg hC8 (by omega)
  have hb8 : Below w.heap.size w w8 := stepB hb1 hb18
  have hRa8 := (hRa.kept hb18).take (n := 4) (by omega)
  have hRb8 := Rd.of_row hOb8
  rw [e64] at hRb8
  replace hRb8 := hRb8.take (n := 4) (by omega)
  have hRd8 := Rd.of_row hOd8
  have hRe8 := Rd.of_row hOe
  rw [otL_take _ _ _ _ (by omega), ka_four] at hRa8
  rw [otL_take _ _ _ _ (by omega), kb_four] at hRb8
  rw [pcL_first, kc_four] at hRd8
  rw [pcL_first, kd_four] at hRe8
  have s1 := convS hRa8
  have s2 := convS hRb8
  have s3 := convS hRd8
  have s4 := convS hRe8
  have k0 := r8.cell (j := 0) (by rw [stL_length]; omega)
  rw [stL_get _ _ (by omega)] at k0
  have ka := c0_and
  generalize abF 136 6 [] 0 = q at k0 ka
  have HB : Hid _ := hb8
  clear hOb7 hOd r7 hC7 hC8 ht7 hY7 hY8 ht8 hb17 hb18 hOb8 hOd8 r8 hb8 hRa8 hRb8 hRd8 hRe8 hOe hRa hb1
  go_wp2
  go_ret
  exact ⟨rfl, HB.out⟩
end Go.Proofs.YthajkimmnceoiaaDoor
