/- What the document's own matrix, small polynomials and parts of bytes are: contracts of the reference of layer 13, first part. -/
import Derived.Test.YtmhbjaampobcbaaGreatDoorRef12g
import Derived.Test.YtmhbjaampobcbaaGreatDoorRef12f
import Derived.Test.YtmhbjaampobcbaaGreatDoorRef12d
import Derived.Test.YtmhbjaampobcbaaGreatDoorJm
namespace Go.Proofs.YtmhbjaampobcbaaGreatDoor
open Go.ChangeShapes Go.WideShapes Go.ChangeAt Go.RowKit
set_option linter.unusedSimpArgs false
set_option linter.unusedVariables false

theorem infoB13 : (Tryz.prog.info? 5).map (fun i => (i.zero, i.size, i.bytes)) = some (some (.int .u8 0), 1, 1) := by kernel_rfl
theorem ofN_wrap (n : Nat) : IntKind.u8.wrap (n : Int) = (((UInt8.ofNat n).toNat : Nat) : Int) := by
 rw [IntKind.wrap_u8, UInt8.toNat_ofNat']
 omega
theorem ofN_mod (n : Nat) : (n : Int) % 256 = (((UInt8.ofNat n).toNat : Nat) : Int) := by
 rw [UInt8.toNat_ofNat']
 omega

set_option maxRecDepth 100000 in
set_option maxHeartbeats 4000000 in
theorem entry13_any (v : Value) (rho : List UInt8) (i j : Nat) (I J : Int) (hI : I = (i : Int)) (hJ : J = (j : Int)) (hl : rho.length ≤ 900000) (w : World) (hr : Rd w v rho) :
  Calls Tryz.prog 55 #[v, .int .i64 I, .int .i64 J] w fun e w' => e = .returned (poV (enF rho i j)) ∧ Below w.heap.size w w' := by
 subst hI hJ
 have HR : Hid (Rd w v rho) := hr
 have i1 := ofN_wrap i
 have i2 := ofN_mod i
 have j1 := ofN_wrap j
 have j2 := ofN_mod j
 obtain ⟨bi, hbi⟩ : ∃ x : UInt8, x = UInt8.ofNat i := ⟨_, rfl⟩
 obtain ⟨bj, hbj⟩ : ∃ x : UInt8, x = UInt8.ofNat j := ⟨_, rfl⟩
 rw [← hbi] at i1 i2
 rw [← hbj] at j1 j2
 have HF : Hid (unF (smF (abF 168 31 (rho ++ [bj, bi])) 168) = enF rho i j) := by
  show _ = _
  rw [hbi, hbj]
  rfl
 clear hr hbi hbj
 go_enter Tryz.func55, Tryz.ntmps55
 go_wp2_with (refine wpList_alloc_row (k := .i64) rfl 57 rfl (gI fun _ => 0) (alloc_po _) (gI_ne _) (poMax _) ?_)
 intro w1 rz bn sn
 rw [gI_length] at rz
 have hbw := bn
 have hr1 := Rd.kept HR.out bn
 have hN1 : New 5 w1 (.slice none 0 0) [] w1 := New.start w1
 clear bn sn
 go_wp2_with (at_builtin; go_must (refine wpList_append_new (w := w1) rfl _ _ 22 rfl 5 Tryz.underlying22 infoB13 _ _ rfl hN1 _ _ rfl hr1 (by simp; omega) ?_))
 intro v2 w2 hN2 _
 clear hN1 hr1
 have hLt : Rd (w2.alloc (.cells #[.int .u8 ((bj.toNat : Nat) : Int), .int .u8 ((bi.toNat : Nat) : Int)] 5)) (.slice (some ⟨w2.heap.size, 0, none⟩) 2 2) [bj, bi] := Rd.litc [bj, bi] rfl rfl rfl (by unfold maxLen; simp)
 go_wp2_with (at_builtin; go_must (refine wpList_append_new (w := w1) rfl _ _ 22 rfl 5 Tryz.underlying22 infoB13 _ _ rfl (hN2.alloc _) _ _ rfl hLt (by simp; omega) ?_))
 intro v3 w3 hN3 _
 clear hN2 hLt
 have hb3 := stepB hbw hN3.2
 have rz3 := rz.kept hN3.2
 have hr3 := hN3.rd
 clear hN3 rz hbw
 go_wp2_with fail
 refine (uniform12_any _ (rho ++ [bj, bi]) (by simp; omega) _ hr3).mono ?_
 rintro e1 w4 ⟨rfl, b4⟩
 have hb4 := stepB hb3 b4
 have rz4 := rz3.kept b4
 rw [HF.out]
 obtain ⟨g, hg⟩ : ∃ g : Nat → FZ, g = enF rho i j := ⟨_, rfl⟩
 rw [← hg]
 have HG : Hid _ := hg
 clear hg
 clear hr3 hb3 rz3 b4 HF
 go_wp2_with (refine wpList_store_row rfl 57 _ _ rfl (gI (fzF g)) rfl rfl rz4 (by rw [gI_length, gI_length]) (poInfo _) ?_; intro w7 r7 hw7)
 refine bodyPost_row (k := .i64) rfl rfl rfl r7 Tryz.underlying57 rfl (poInfo _) ?_
 exact ⟨by rw [HG.out], hw7.below _ _ (Nat.le_refl _) hb4⟩

set_option maxRecDepth 100000 in
set_option maxHeartbeats 4000000 in
theorem small13_any (v : Value) (s : List UInt8) (n : Nat) (N : Int) (hN : N = (n : Int)) (hl : s.length ≤ 900000) (w : World) (hr : Rd w v s) :
  Calls Tryz.prog 51 #[v, .int .i64 N] w fun e w' => e = .returned (poV (slF s n)) ∧ Below w.heap.size w w' := by
 subst hN
 have HR : Hid (Rd w v s) := hr
 have i1 := ofN_wrap n
 have i2 := ofN_mod n
 obtain ⟨bi, hbi⟩ : ∃ x : UInt8, x = UInt8.ofNat n := ⟨_, rfl⟩
 rw [← hbi] at i1 i2
 have HF : Hid (nsF 2 (otL (abF 136 31 (s ++ [bi])) 136 (64 * 2)) = slF s n) := by
  show _ = _
  rw [hbi]
  rfl
 clear hr hbi
 go_enter Tryz.func51, Tryz.ntmps51
 go_wp2_with (refine wpList_alloc_row (k := .i64) rfl 57 rfl (gI fun _ => 0) (alloc_po _) (gI_ne _) (poMax _) ?_)
 intro w1 rz bn sn
 rw [gI_length] at rz
 have hbw := bn
 have n1 : w.heap.size < w1.heap.size := by have := sn.out; omega
 clear bn sn
 go_wp2_with fail
 refine (prf12_any 2 _ rfl (by decide) (by decide) _ s bi _ rfl hl _ (HR.out.kept hbw)).mono ?_
 rintro e1 w4 ⟨rfl, b4⟩
 have hb4 := stepB hbw b4
 have rz4 := rz.kept b4
 have n4 := b4.size
 rw [HF.out]
 obtain ⟨g, hg⟩ : ∃ g : Nat → FZ, g = slF s n := ⟨_, rfl⟩
 rw [← hg]
 have HG : Hid _ := hg
 clear hg
 clear hbw rz b4 HF
 go_wp2_with (refine wpList_alloc_row (k := .i64) rfl 57 rfl (gI fun _ => 0) (alloc_po _) (gI_ne _) (poMax _) ?_)
 intro w5 ra bn sn
 rw [gI_length] at ra
 replace rz4 := rz4.kept bn
 have hb5 := stepB hb4 bn
 clear bn sn hb4
 go_wp2_with (refine wpList_store_row rfl 57 _ _ rfl (gI (fzF g)) rfl rfl ra (by rw [gI_length, gI_length]) (poInfo _) ?_)
 intro w6 ra6 hw6
 replace rz4 := rz4.wrote hw6 (by omega)
 have hb6 := hw6.below _ _ (by omega) hb5
 clear ra hw6 hb5
 go_wp2_with (first | refine wpList_load_row rfl 57 _ rfl rfl ra6 _ Tryz.underlying57 rfl (poInfo _) ?_ | (refine wpList_store_row rfl 57 _ _ rfl (gI (fzF g)) rfl rfl rz4 (by rw [gI_length, gI_length]) (poInfo _) ?_; intro w7 r7 hw7))
 refine bodyPost_row (k := .i64) rfl rfl rfl r7 Tryz.underlying57 rfl (poInfo _) ?_
 exact ⟨by rw [HG.out], hw7.below _ _ (by omega) hb6⟩

set_option maxRecDepth 100000 in
set_option maxHeartbeats 4000000 in
theorem part13_any (d i : Nat) (D I : Int) (hD : D = (d : Int)) (hI : I = (i : Int)) (h1 : 1 ≤ d) (h12 : d ≤ 12) (v : Value) (b : List UInt8) (hb : 32 * d * i + 32 * d ≤ b.length) (hbl : b.length ≤ 900000) (w : World) (hr : Rd w v b) :
  Calls Tryz.prog 63 #[.int .i64 D, v, .int .i64 I] w fun e w' => e = .returned (poV (ptF d b i)) ∧ Below w.heap.size w w' := by
 subst hD hI
 have hi : i ≤ 900000 := by
  have : 1 * i ≤ 32 * d * i := Nat.mul_le_mul_right i (by omega)
  omega
 obtain ⟨a0, ck, ev, hck, hmk, -, h5⟩ := id hr
 rcases h5 with h5 | ⟨bb, ob, rfl, -⟩
 ·rw [h5] at hb
  simp at hb
  omega
 subst ev
 obtain ⟨L, hL⟩ : ∃ L : Nat, L = b.length := ⟨_, rfl⟩
 rw [← hL] at hr hb hbl hck ⊢
 obtain ⟨d32, hd32⟩ : ∃ x : Nat, x = 32 * d := ⟨_, rfl⟩
 obtain ⟨o, ho⟩ : ∃ x : Nat, x = d32 * i := ⟨_, rfl⟩
 obtain ⟨p, hp⟩ : ∃ x : Nat, x = o + d32 := ⟨_, rfl⟩
 rw [← hd32, ← ho] at hb
 have hs := hr.sub o p (by omega) (by omega)
 have hpo : p - o = d32 := by omega
 rw [hpo] at hs
 have HF : Hid (upF d ((b.drop o).take d32) = ptF d b i) := by
  show _ = _
  rw [ho, hd32]
  rfl
 have HS : Hid (Rd w (.slice (some ⟨bb, ob + o, none⟩) d32 (ck - o)) ((b.drop o).take d32)) := hs
 have HLn : Hid (((b.drop o).take d32).length = 32 * d) := by
  show _ = _
  rw [List.length_take, List.length_drop, ← hL]
  omega
 have e1 : IntKind.i64.wrap (32 * (d : Int)) = (d32 : Int) := by rw [show 32 * (d : Int) = (d32 : Int) by omega]; exact IntWalk.i64_in _ (by omega)
 have e2 : IntKind.i64.wrap ((d32 : Int) * (i : Int)) = (o : Int) := by rw [← Int.natCast_mul, ← ho]; exact IntWalk.i64_in _ (by omega)
 have e3 : IntKind.i64.wrap ((o : Int) + (d32 : Int)) = (p : Int) := by rw [show (o : Int) + (d32 : Int) = (p : Int) by omega]; exact IntWalk.i64_in _ (by omega)
 unfold maxLen at hmk
 have y1 : (o : Int) ≤ (p : Int) := by omega
 have y2 : (p : Int) ≤ (ck : Int) := by omega
 have y3 : ¬ ck = o := by omega
 have y4 : o ≤ p := by omega
 clear hr hs hL ho hp hb hbl hd32
 go_enter Tryz.func63, Tryz.ntmps63
 go_wp2_with (refine wpList_alloc_row (k := .i64) rfl 57 rfl (gI fun _ => 0) (alloc_po _) (gI_ne _) (poMax _) ?_)
 intro w1 rz bn sn
 rw [gI_length] at rz
 have hbw := bn
 have n1 : w.heap.size < w1.heap.size := by have := sn.out; omega
 clear bn sn
 go_wp2_with fail
 try rw [hpo]
 refine (unpack12_any d _ rfl h1 h12 _ _ _ (HS.out.kept hbw) HLn.out).mono ?_
 rintro e1 w4 ⟨rfl, b4⟩
 have hb4 := stepB hbw b4
 have rz4 := rz.kept b4
 have n4 := b4.size
 rw [HF.out]
 obtain ⟨g, hg⟩ : ∃ g : Nat → FZ, g = ptF d b i := ⟨_, rfl⟩
 rw [← hg]
 have HG : Hid _ := hg
 clear hg
 clear hbw rz b4 HF
 go_wp2_with (refine wpList_alloc_row (k := .i64) rfl 57 rfl (gI fun _ => 0) (alloc_po _) (gI_ne _) (poMax _) ?_)
 intro w5 ra bn sn
 rw [gI_length] at ra
 replace rz4 := rz4.kept bn
 have hb5 := stepB hb4 bn
 clear bn sn hb4
 go_wp2_with (refine wpList_store_row rfl 57 _ _ rfl (gI (fzF g)) rfl rfl ra (by rw [gI_length, gI_length]) (poInfo _) ?_)
 intro w6 ra6 hw6
 replace rz4 := rz4.wrote hw6 (by omega)
 have hb6 := hw6.below _ _ (by omega) hb5
 clear ra hw6 hb5
 go_wp2_with (first | refine wpList_load_row rfl 57 _ rfl rfl ra6 _ Tryz.underlying57 rfl (poInfo _) ?_ | (refine wpList_store_row rfl 57 _ _ rfl (gI (fzF g)) rfl rfl rz4 (by rw [gI_length, gI_length]) (poInfo _) ?_; intro w7 r7 hw7))
 refine bodyPost_row (k := .i64) rfl rfl rfl r7 Tryz.underlying57 rfl (poInfo _) ?_
 exact ⟨by rw [HG.out], hw7.below _ _ (by omega) hb6⟩
end Go.Proofs.YtmhbjaampobcbaaGreatDoor
