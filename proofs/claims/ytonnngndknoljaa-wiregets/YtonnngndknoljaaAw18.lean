/- That the program is awake: a cookie's bytes, there and back. -/
import Derived.Test.YtonnngndknoljaaWr18f
namespace Go.Proofs.Ytonnngndknoljaa
open Go.ChangeShapes Go.WideShapes Go.ChangeAt Go.RowKit
set_option linter.unusedSimpArgs false
set_option linter.unusedVariables false

def zCk : Pkt := ⟨2, 0, 1, 0, 0, 0, List.replicate 16 0, 0, []⟩
def zFr : Pkt := ⟨1, 0, 0, 0, 0, 1, List.replicate 16 0, 0, [7]⟩
theorem zCk_may : mayB zCk = true := by decide
theorem zCk_w : PkW zCk := ⟨by decide, by decide, by decide, by decide, by decide, by decide, by decide⟩
theorem zFr_w : PkW zFr := ⟨by decide, by decide, by decide, by decide, by decide, by decide, by decide⟩
theorem zCk_put : (putL zCk).length = 21 ∧ (putL zCk).getD 0 0 = 2 ∧ (putL zCk).getD 1 0 = 1 := by decide
theorem zFr_sg : (sgL zFr).length = 13 ∧ (sgL zFr).getD 12 0 = 7 := by decide
theorem five_get : gtP [5] = (noPk, 40) := by
  rw [gtP_pt (by decide) (by decide), if_neg (by decide)]
theorem build_ck (a : Option Addr) (n c : Nat) (w : World) : (Instr.build 26 #[(0, .int .i64 2), (2, .int .u32 1), (6, .slice a n c)]).run Try.prog w = .ok (.agg (pkC zCk (.slice a n c) (.slice none 0 0)).toArray) w := by kernel_rfl
theorem build_fr (a a2 : Option Addr) (n c n2 c2 : Nat) (w : World) : (Instr.build 26 #[(0, .int .i64 1), (5, .int .i64 1), (6, .slice a n c), (8, .slice a2 n2 c2)]).run Try.prog w = .ok (.agg (pkC zFr (.slice a n c) (.slice a2 n2 c2)).toArray) w := by kernel_rfl
theorem Rd.at18 {w : World} {v : Value} {l : List UInt8} {n : Nat} (h : Rd w v l) (hn : l.length = n) (h0 : 0 < n) : ∃ b off cap, v = .slice (some ⟨b, off, none⟩) n cap ∧ n ≤ cap := by
  obtain ⟨b, off, cap, h1, h2, -⟩ := h.cellAt (i := 0) (by omega)
  exact ⟨b, off, cap, by rw [h1, hn], by omega⟩
theorem Rd.in18 {w : World} {b off n cap : Nat} {l : List UInt8} (h : Rd w (.slice (some ⟨b, off, none⟩) n cap) l) (i : Nat) (hi : i < l.length) (x : UInt8) (hx : l.getD i 0 = x) (k : Nat) (hk : k = off + i) : w.cell? ⟨b, k, none⟩ = some (.int .u8 (x.toNat : Int)) := by
  obtain ⟨b', off', cap', h1, -, h3, -⟩ := h.cellAt hi
  simp only [Value.slice.injEq, Option.some.injEq, Addr.mk.injEq] at h1
  obtain ⟨⟨rfl, rfl, -⟩, -⟩ := h1
  rw [hk, h3, hx]

set_option maxRecDepth 100000 in
set_option maxHeartbeats 8000000 in
theorem awake_any (w : World) : Calls Try.prog 7 #[] w fun e w' => e = .returned (.bool true) ∧ Below w.heap.size w w' := by
  obtain ⟨ti, hti, hz0, hz1, hz2⟩ := info_parts info5
  go_enter Try.func7, Try.ntmps7
  go_wp2_with (at_make; go_must (refine wpList_make_full _ rfl _ _ 23 rfl w.heap.size 5 ti _ 1 Try.underlying23 hti hz0 hz1 _ _ _ _ 16 rfl rfl rfl rfl (by rw [hz2]; omega) (by unfold maxLen; omega) (Nat.le_refl _) ?_))
  intro w1 hown hgr
  have hN1 := New.made hown hgr
  have HR1 : Hid (PkR w1 zCk (.slice (some ⟨w.heap.size, 0, none⟩) 16 16) (.slice none 0 0)) := ⟨hN1.rd, Rd.nil _⟩
  have HB1 : Hid (Below w.heap.size w w1) := hN1.2
  clear hown hgr hN1
  go_wp2_with (refine wpList_buildB rfl 26 _ rfl #[(0, .int .i64 2), (2, .int .u32 1), (6, .slice (some ⟨w.heap.size, 0, none⟩) 16 16)] (by go_simp; done) _ (build_ck _ _ _ _) ?_)
  refine (wput_any zCk zCk_w zCk_may _ _ _ rfl _ HR1.out).mono ?_
  rintro e w2 ⟨vx, rfl, hN2⟩
  obtain ⟨bx, ox, cx, rfl, hcx⟩ := hN2.rd.at18 zCk_put.1 (by decide)
  have hG : gtP (putL zCk) = (zCk, 0) := gt_put zCk_w zCk_may
  have hL := zCk_put
  generalize putL zCk = X at hN2 hG hL
  have HX : Hid (Rd w2 (.slice (some ⟨bx, ox, none⟩) 21 cx) X) := hN2.rd
  have HB2 : Hid (Below w.heap.size w w2) := stepB HB1.out hN2.2
  have HL : Hid _ := hL
  have HG : Hid _ := hG
  clear hN2 hG hL HR1 HB1
  go_wp2_with fail
  refine (wget_any _ X (by have := HL.out.1; omega) _ HX.out).mono ?_
  rintro e w3 ⟨vm, vb, rfl, hO3⟩
  rw [HG.out] at hO3 ⊢
  obtain ⟨am, cm, rfl, -⟩ := id hO3.tail.rd0
  obtain ⟨ab, cb, rfl, -⟩ := id hO3.rd0
  have HB3 : Hid (Below w.heap.size w w3) := stepB HB2.out hO3.below
  have HX3 : Hid (Rd w3 (.slice (some ⟨bx, ox, none⟩) 21 cx) X) := HX.out.kept hO3.below
  clear hO3 HB2 HX HG
  go_wp2_with (refine wpList_alloc_blk rfl 26 rfl zpk (alloc_wk _) ?_)
  intro w4 r4 b4 s4
  obtain ⟨g, hg⟩ : ∃ n : Nat, n = w3.heap.size := ⟨_, rfl⟩
  rw [← hg] at r4 ⊢
  have HGe : Hid (w3.heap.size ≤ g) := by show _ ≤ _; rw [hg]; exact Nat.le_refl _
  have HB4 : Hid (Below w3.heap.size w3 w4) := b4
  clear hg b4 s4
  go_wp2_with (refine wpList_store_part rfl 26 _ _ rfl rfl (pkC zCk (.slice am zCk.mac.length cm) (.slice ab zCk.body.length cb)) rfl [] zpk [] (pkC zCk (.slice am zCk.mac.length cm) (.slice ab zCk.body.length cb)) r4 (by simp) (by simp) rfl rfl info_wk (one_pk _ _ _ _ _ _ _) ?_)
  intro w5 r5 hw5
  have HB5 : Hid (Below w3.heap.size w3 w5) := hw5.below _ _ HGe.out HB4.out
  have R5 : Hid (BlkAt g 26 (pkC zCk (.slice am zCk.mac.length cm) (.slice ab zCk.body.length cb)) w5) := (by simpa using r5 : BlkAt g 26 (pkC zCk (.slice am zCk.mac.length cm) (.slice ab zCk.body.length cb)) w5)
  clear r4 r5 hw5 HB4
  go_wp2_with fail
  have hN5 : New 5 w5 (.slice (some ⟨w5.heap.size, 0, none⟩) 1 1) [5] (w5.alloc (.cells #[.int .u8 5] 5)) := New.lit18 5 (by decide)
  refine (wget_any _ [5] (by decide) _ hN5.rd).mono ?_
  rintro e w6 ⟨vm6, vb6, rfl, hO6⟩
  rw [five_get] at hO6 ⊢
  obtain ⟨am6, cm6, rfl, -⟩ := id hO6.tail.rd0
  obtain ⟨ab6, cb6, rfl, -⟩ := id hO6.rd0
  have hb6 := stepB (growB _) hO6.below
  have R6 : Hid (BlkAt g 26 (pkC zCk (.slice am zCk.mac.length cm) (.slice ab zCk.body.length cb)) w6) := R5.out.kept hb6
  have HB6 : Hid (Below w3.heap.size w3 w6) := stepB HB5.out hb6
  clear hO6 hN5 hb6 R5 HB5
  go_wp2_with (refine wpList_alloc_blk rfl 26 rfl zpk (alloc_wk _) ?_)
  intro w7 r7 b7 s7
  obtain ⟨g7, hg7⟩ : ∃ n : Nat, n = w6.heap.size := ⟨_, rfl⟩
  rw [← hg7] at r7 ⊢
  have HG7 : Hid (g < g7 ∧ w3.heap.size ≤ g7) := by have h1 := R6.out.lt; have h2 := HGe.out; exact ⟨by omega, by omega⟩
  have R7 : Hid (BlkAt g 26 (pkC zCk (.slice am zCk.mac.length cm) (.slice ab zCk.body.length cb)) w7) := R6.out.kept b7
  have HB7 : Hid (Below w3.heap.size w3 w7) := stepB HB6.out b7
  clear hg7 b7 s7 R6 HB6
  go_wp2_with (refine wpList_store_part rfl 26 _ _ rfl rfl (pkC noPk (.slice am6 noPk.mac.length cm6) (.slice ab6 noPk.body.length cb6)) rfl [] zpk [] (pkC noPk (.slice am6 noPk.mac.length cm6) (.slice ab6 noPk.body.length cb6)) r7 (by simp) (by simp) rfl rfl info_wk (one_pk _ _ _ _ _ _ _) ?_)
  intro w8 r8 hw8
  have R8 : Hid (BlkAt g 26 (pkC zCk (.slice am zCk.mac.length cm) (.slice ab zCk.body.length cb)) w8) := R7.out.wrote hw8 (by have := HG7.out.1; omega)
  have HB8 : Hid (Below w3.heap.size w3 w8) := hw8.below _ _ HG7.out.2 HB7.out
  clear r7 r8 hw8 R7 HB7
  go_wp2_with (at_make; go_must (refine wpList_make_full _ rfl _ _ 23 rfl w8.heap.size 5 ti _ 1 Try.underlying23 hti hz0 hz1 _ _ _ _ 16 rfl rfl rfl rfl (by rw [hz2]; omega) (by unfold maxLen; omega) (Nat.le_refl _) ?_))
  intro w9 hown hgr
  have hN9 := New.made hown hgr
  have R9 : Hid (BlkAt g 26 (pkC zCk (.slice am zCk.mac.length cm) (.slice ab zCk.body.length cb)) w9) := R8.out.kept hN9.2
  have HB9 : Hid (Below w3.heap.size w3 w9) := stepB HB8.out hN9.2
  have HM9 : Hid (Rd w9 (.slice (some ⟨w8.heap.size, 0, none⟩) 16 16) (List.replicate 16 0)) := hN9.rd
  clear hown hgr hN9 R8 HB8
  go_wp2_with (refine wpList_buildB rfl 26 _ rfl #[(0, .int .i64 1), (5, .int .i64 1), (6, .slice (some ⟨w8.heap.size, 0, none⟩) 16 16), (8, .slice (some ⟨w9.heap.size, 0, none⟩) 1 1)] (by go_simp; done) _ (build_fr _ _ _ _ _ _ _) ?_)
  have hN10 : New 5 w9 (.slice (some ⟨w9.heap.size, 0, none⟩) 1 1) [7] (w9.alloc (.cells #[.int .u8 7] 5)) := New.lit18 7 (by decide)
  have HR10 : Hid (PkR (w9.alloc (.cells #[.int .u8 7] 5)) zFr (.slice (some ⟨w8.heap.size, 0, none⟩) 16 16) (.slice (some ⟨w9.heap.size, 0, none⟩) 1 1)) := ⟨HM9.out.kept hN10.2, hN10.rd⟩
  refine (wsigned_any zFr zFr_w _ _ _ rfl _ HR10.out).mono ?_
  rintro e w11 ⟨vs, rfl, hN11⟩
  obtain ⟨bs, os, cs, rfl, hcs⟩ := hN11.rd.at18 zFr_sg.1 (by decide)
  have hb11 := stepB hN10.2 hN11.2
  have q11 := R9.out.kept hb11
  have c2 : w11.cell? ⟨g, 2, none⟩ = some (.int .u32 1) := q11.cell 2
  have hB11 := stepB HB9.out hb11
  have hx11 := HX3.out.kept hB11
  have cx0 : w11.cell? ⟨bx, ox, none⟩ = some (.int .u8 2) := hx11.in18 0 (by rw [HL.out.1]; decide) 2 HL.out.2.1 _ rfl
  have cx1 : w11.cell? ⟨bx, ox + 1, none⟩ = some (.int .u8 1) := hx11.in18 1 (by rw [HL.out.1]; decide) 1 HL.out.2.2 _ rfl
  have cs12 : w11.cell? ⟨bs, os + 12, none⟩ = some (.int .u8 7) := hN11.rd.in18 12 (by rw [zFr_sg.1]; decide) 7 zFr_sg.2 _ rfl
  have HBe : Hid (Below w.heap.size w w11) := stepB HB3.out hB11
  clear hN10 HR10 hN11 hb11 q11 hB11 hx11 R9 HB9 HM9 HX3 HB3 HL HGe HG7
  go_wp2
  go_ret
  exact ⟨rfl, HBe.out⟩
end Go.Proofs.Ytonnngndknoljaa
