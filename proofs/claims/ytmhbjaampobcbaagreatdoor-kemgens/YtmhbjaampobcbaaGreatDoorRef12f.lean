/- What the document's own small polynomial of a seed is: contracts of the reference of layer 12, sixth part. -/
import Derived.Test.YtmhbjaampobcbaaGreatDoorRef12c
import Derived.Test.YtmhbjaampobcbaaGreatDoorRfb
import Derived.Test.YtmhbjaampobcbaaGreatDoorBase
namespace Go.Proofs.YtmhbjaampobcbaaGreatDoor
open Go.ChangeShapes Go.WideShapes Go.ChangeAt Go.RowKit
set_option linter.unusedSimpArgs false
set_option linter.unusedVariables false

theorem infoB12f : (Tryz.prog.info? 5).map (fun i => (i.zero, i.size, i.bytes)) = some (some (.int .u8 0), 1, 1) := by kernel_rfl
set_option maxRecDepth 100000 in
set_option maxHeartbeats 4000000 in
theorem prf12_any (e : Nat) (E : Int) (hE : E = (e : Int)) (h1 : 1 ≤ e) (h3 : e ≤ 3) (v : Value) (l : List UInt8) (n : UInt8) (N : Int) (hN : N = (n.toNat : Int)) (hl : l.length ≤ 900000) (w : World) (hr : Rd w v l) :
  Calls Tryz.prog 98 #[.int .i64 E, v, .int .u8 N] w fun r w' => r = .returned (.tuple #[poV (nsF e (otL (abF 136 31 (l ++ [n])) 136 (64 * e))), .int .i64 0]) ∧ Below w.heap.size w w' := by
 subst hE hN
 have HR : Hid (Rd w v l) := hr
 have c1 : decide ((e : Int) < 1) = false := decide_eq_false (by omega)
 have c2 : decide (3 < (e : Int)) = false := decide_eq_false (by omega)
 have c3 : (1 : Int) ≤ (e : Int) := by omega
 have c4 : (e : Int) ≤ 3 := by omega
 clear hr
 go_enter Tryz.func98, Tryz.ntmps98
 go_wp2_with (refine wpList_alloc_row (k := .i64) rfl 57 rfl (gI fun _ => 0) (alloc_po _) (gI_ne _) (poMax _) ?_)
 intro w1 rz bn sn
 rw [gI_length] at rz
 have hbw := bn
 have hr1 := Rd.kept HR.out bn
 have hN1 : New 5 w1 (.slice none 0 0) [] w1 := New.start w1
 clear bn sn
 go_wp2_with (at_builtin; go_must (refine wpList_append_new (w := w1) rfl _ _ 22 rfl 5 Tryz.underlying22 infoB12f _ _ rfl hN1 _ _ rfl hr1 (by simp; omega) ?_))
 intro v2 w2 hN2 _
 clear hN1 hr1
 have hLt : Rd (w2.alloc (.cells #[.int .u8 ((n.toNat : Nat) : Int)] 5)) (.slice (some ⟨w2.heap.size, 0, none⟩) 1 1) [n] := Rd.lit1 _ rfl
 go_wp2_with (at_builtin; go_must (refine wpList_append_new (w := w1) rfl _ _ 22 rfl 5 Tryz.underlying22 infoB12f _ _ rfl (hN2.alloc _) _ _ rfl hLt (by simp only [List.length_singleton]; omega) ?_))
 intro v3 w3 hN3 _
 clear hN2 hLt
 obtain ⟨m, hm⟩ : ∃ m : Nat, m = 64 * e := ⟨_, rfl⟩
 have xm : IntKind.i64.wrap (64 * (e : Int)) = (m : Int) := by rw [IntWalk.i64_in _ (by omega)]; omega
 have xm2 : 64 * (e : Int) = (m : Int) := by omega
 have HM : Hid (m = 64 * e) := hm
 have hb3 := stepB hbw hN3.2
 have rz3 := rz.kept hN3.2
 have hr3 := hN3.rd
 clear hN3 hm rz hbw
 go_wp2_with fail
 try rw [xm2]
 refine (shake256R_any _ (l ++ [n]) (by rw [List.length_append, List.length_singleton]; omega) m (by have := HM.out; omega) _ hr3).mono ?_
 rintro e1 w4 ⟨v4, rfl, hr4, b4⟩
 have hb4 := stepB hb3 b4
 have rz4 := rz3.kept b4
 clear hr3 hb3 rz3 b4
 go_wp2_with fail
 refine (noise12_any e _ rfl h1 h3 _ _ _ hr4 (by rw [otL_length]; exact HM.out)).mono ?_
 rintro e1 w5 ⟨rfl, b5⟩
 have hb5 := stepB hb4 b5
 have rz5 := rz4.kept b5
 rw [HM.out]
 clear hb4 rz4 b5 hr4
 obtain ⟨g, hg⟩ : ∃ g : Nat → FZ, g = nsF e (otL (abF 136 31 (l ++ [n])) 136 (64 * e)) := ⟨_, rfl⟩
 rw [← hg]
 have HG : Hid _ := hg
 clear hg
 go_wp2_with (refine wpList_store_row rfl 57 _ _ rfl (gI (fzF g)) rfl rfl rz5 (by rw [gI_length, gI_length]) (poInfo _) ?_; intro w7 r7 hw7)
 refine bodyPost_po (k := .i64) rfl rfl rfl rfl r7 Tryz.underlying57 rfl (poInfo _) ?_
 exact ⟨by rw [HG.out]; rfl, hw7.below _ _ (Nat.le_refl _) hb5⟩
end Go.Proofs.YtmhbjaampobcbaaGreatDoor
