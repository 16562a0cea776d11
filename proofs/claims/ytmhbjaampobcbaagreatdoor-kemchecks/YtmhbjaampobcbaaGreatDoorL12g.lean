/- Polynomials of a seed: contracts of package sample, seventh part. -/
import Derived.Test.YtmhbjaampobcbaaGreatDoorL12f
namespace Go.Proofs.YtmhbjaampobcbaaGreatDoor
open Go.ChangeShapes Go.WideShapes Go.ChangeAt Go.RowKit
set_option linter.unusedSimpArgs false
set_option linter.unusedVariables false

theorem RdL.pair12 {w : World} {e : TypeId} {v1 v2 : Value} {l1 l2 : List UInt8} {b : Nat} (hb : b = w.heap.size) (h1 : Rd w v1 l1) (h2 : Rd w v2 l2) : RdL (w.alloc (.cells #[v1, v2] e)) (.slice (some ⟨b, 0, none⟩) 2 2) [v1, v2] [l1, l2] := by
 subst hb
 refine RdL.lit [v1, v2] [l1, l2] rfl rfl rfl (by unfold maxLen; simp) rfl fun i hi => ?_
 match i, hi with
 | 0, _ => exact h1
 | 1, _ => exact h2
theorem New.pair12 {e : TypeId} {w w' : World} {v : Value} {l1 l2 : List UInt8} (h : New e w v [l1, l2].flatten w') : New e w v (l1 ++ l2) w' := by
 simpa using h

set_option maxRecDepth 100000 in
set_option maxHeartbeats 2000000 in
theorem suniform_any (v : Value) (l : List UInt8) (w : World) (hr : Rd w v l) (hT : Tabs w) :
  Calls Tryz.prog 88 #[v] w fun e w' => e = .returned (poV (unF (smF (abF 168 31 l) 168))) ∧ Below w.heap.size w w' := by
 have hmf : ∀ (fn : Fn) (first cap : Array Value) (w : World), (Instr.makeFunc fn first cap).run Tryz.prog w = .ok (.func fn first cap) w := fun _ _ _ _ => rfl
 have k2 := hT.two
 have HR : Hid (Rd w v l) := hr
 clear hr
 go_enter Tryz.func88, Tryz.ntmps88
 go_wp2_with (refine wpList_alloc_row (k := .i64) rfl 58 rfl (gI fun _ => 0) (alloc_poS _) (gI_ne _) (poMax _) ?_)
 intro w1 rz b1 s1
 rw [gI_length] at rz
 have n1 : w.heap.size < w1.heap.size := by have := s1.out; omega
 replace hT := hT.kept b1
 clear s1
 go_wp2_with fail
 refine (shake128_any _ l _ (Rd.kept HR.out b1) hT).mono ?_
 rintro e w2 ⟨gx, rfl, hgx, hX, b2⟩
 replace rz := rz.kept b2
 replace hT := hT.kept b2
 have n2 := b2.size
 have hbw := stepB b1 b2
 clear b1 b2
 go_wp2_with fail
 refine (chosen_any 35 gx (abF 168 31 l) _ (entersS Tryz.func35 (by kernel_rfl) rfl) (fun p W hX hT => read_any gx (abF 168 31 l) (abF_lt _ _ _) 168 p (by omega) (by omega) 3 3 rfl (by omega) W hX (by omega) hT) hX hT (by omega)).mono ?_
 rintro e w3 ⟨rfl, hC⟩
 replace rz := rz.chg hC (by omega)
 have hbx := hC.past hbw (by omega) (by omega)
 clear hX hT hC hbw
 go_wp2_with (refine wpList_store_row rfl 58 _ _ rfl (gI (fzF (unF (smF (abF 168 31 l) 168)))) rfl rfl rz (by rw [gI_length, gI_length]) (poInfoS _) ?_; intro w7 r7 hw7)
 refine bodyPost_row (k := .i64) rfl rfl rfl r7 Tryz.underlying58 rfl (poInfoS _) ?_
 exact ⟨rfl, hw7.below _ _ (by omega) hbx⟩

set_option maxRecDepth 100000 in
set_option maxHeartbeats 4000000 in
theorem sprf_any (e : Nat) (E : Int) (hE : E = (e : Int)) (h1 : 1 ≤ e) (h3 : e ≤ 3) (v : Value) (l : List UInt8) (n : UInt8) (N : Int) (hN : N = (n.toNat : Int)) (hl : l.length ≤ 900000) (w : World) (hr : Rd w v l) (hT : Tabs w) :
  Calls Tryz.prog 126 #[.int .i64 E, v, .int .u8 N] w fun r w' => r = .returned (.tuple #[poV (nsF e (otL (abF 136 31 (l ++ [n])) 136 (64 * e))), .int .i64 0]) ∧ Below w.heap.size w w' := by
 subst hE
 obtain ⟨av, cv, rfl, -, -, -, -⟩ := id hr
 have k2 := hT.two
 have HR : Hid (Rd w (.slice av l.length cv) l) := hr
 have HL : Hid (totL [l, [n]] ≤ 1000000000) := by show _ ≤ _; simp [totL]; omega
 have HN : Hid (N = (n.toNat : Int)) := hN
 clear hr hl hN
 go_enter Tryz.func126, Tryz.ntmps126
 go_wp2_with (refine wpList_alloc_row (k := .i64) rfl 58 rfl (gI fun _ => 0) (alloc_poS _) (gI_ne _) (poMax _) ?_)
 intro w1 rz b1 s1
 rw [gI_length] at rz
 have m1 : w.heap.size < w1.heap.size := by have := s1.out; omega
 clear s1
 go_wp2_with fail
 refine (isEta_in e (by omega) (by omega) _).mono ?_
 rintro r w1 ⟨rfl, rfl⟩
 have g1 := growB (w := w1) (.cells #[.int .u8 N] 5)
 have hc : Rd (w1.alloc (.cells #[.int .u8 N] 5)) (.slice (some ⟨w1.heap.size, 0, none⟩) 1 1) [n] := Rd.lit1 n HN.out
 have hL := RdL.pair12 (e := 22) (b := w1.heap.size + 1) (by simp) ((Rd.kept HR.out b1).kept g1) hc
 have g2 := stepB g1 (growB (w := w1.alloc (.cells #[.int .u8 N] 5)) (.cells #[.slice av l.length cv, .slice (some ⟨w1.heap.size, 0, none⟩) 1 1] 22))
 replace rz := rz.kept g2
 replace hT := (hT.kept b1).kept g2
 have hbw := stepB b1 g2
 clear g1 g2 hc b1
 go_wp2_with fail
 refine (join_any _ _ _ _ hL HL.out).mono ?_
 rintro r w3 ⟨v3, rfl, hN3⟩
 have hR3 := hN3.pair12.rd
 replace rz := rz.kept hN3.2
 replace hT := hT.kept hN3.2
 replace hbw := stepB hbw hN3.2
 have z3 := hbw.size
 have r3 := rz.lt
 clear hN3 hL
 go_wp2_with fail
 refine (shake256_any _ (l ++ [n]) _ hR3 hT).mono ?_
 rintro r w4 ⟨gx, rfl, hgx, hX, b4⟩
 replace rz := rz.kept b4
 replace hT := hT.kept b4
 replace hbw := stepB hbw b4
 have z4 := b4.size
 have r4 := rz.lt
 clear b4 hR3
 obtain ⟨m, hm⟩ : ∃ m : Nat, m = 64 * e := ⟨_, rfl⟩
 have HM : Hid (m = 64 * e) := hm
 have hmb : m ≤ 192 := by omega
 go_wp2_with fail
 refine (noiseSize_any e _ rfl (by omega) _).mono ?_
 rintro r w4 ⟨rfl, rfl⟩
 rw [← hm]
 clear hm
 go_wp2_with fail
 refine (read_any gx (abF 136 31 (l ++ [n])) (abF_lt _ _ _) 136 0 (by omega) (by omega) (m : Int) m (by omega) (by omega) _ hX (by omega) hT).mono ?_
 rintro r w5 ⟨v5, rfl, hO, -, hC, -⟩
 replace rz := rz.chg hC (by omega)
 have hbx := hC.past hbw (by omega) (by omega)
 have hR5 := Rd.of_row hO
 rw [pcL_first] at hR5
 clear hC hO hX hT hbw
 go_wp2_with fail
 refine (snoise_any e _ rfl h1 h3 _ _ _ hR5 (by rw [otL_length]; exact HM.out)).mono ?_
 rintro r w6 ⟨rfl, b6⟩
 replace rz := rz.kept b6
 replace hbx := stepB hbx b6
 rw [HM.out]
 clear b6 hR5
 obtain ⟨g, hg⟩ : ∃ g : Nat → FZ, g = nsF e (otL (abF 136 31 (l ++ [n])) 136 (64 * e)) := ⟨_, rfl⟩
 rw [← hg]
 have HG : Hid _ := hg
 clear hg
 go_wp2_with (refine wpList_store_row rfl 58 _ _ rfl (gI (fzF g)) rfl rfl rz (by rw [gI_length, gI_length]) (poInfoS _) ?_; intro w7 r7 hw7)
 refine bodyPost_po (k := .i64) rfl rfl rfl rfl r7 Tryz.underlying58 rfl (poInfoS _) ?_
 exact ⟨by rw [HG.out]; rfl, hw7.below _ _ (Nat.le_refl _) hbx⟩
end Go.Proofs.YtmhbjaampobcbaaGreatDoor
