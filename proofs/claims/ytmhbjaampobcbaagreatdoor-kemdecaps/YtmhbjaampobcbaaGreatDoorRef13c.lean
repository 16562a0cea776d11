/- What the document's own keys are: contracts of the reference of layer 13, third part. -/
import Derived.Test.YtmhbjaampobcbaaGreatDoorRef13p
import Derived.Test.YtmhbjaampobcbaaGreatDoorRfb
namespace Go.Proofs.YtmhbjaampobcbaaGreatDoor
open Go.ChangeShapes Go.WideShapes Go.ChangeAt Go.RowKit
set_option linter.unusedSimpArgs false
set_option linter.unusedVariables false

theorem blk_news {g : Nat} {ty : TypeId} {cs : List Value} {w : World} (h : BlkAt g ty cs w) : ∀ j u, cs[j]? = some u → w.cell? ((⟨g, 0, none⟩ : Addr).add j) = some u := by
 intro j u hj
 have hplain : (⟨g, 0, none⟩ : Addr).add j = ⟨g, 0 + j, none⟩ := by unfold Addr.add; split <;> simp_all
 rw [hplain, Nat.zero_add, h.cell, hj]

set_option maxRecDepth 100000 in
set_option maxHeartbeats 8000000 in
theorem gen13_any (v : Value) (d : List UInt8) (w : World) (hd : Rd w v d) (hd32 : d.length = 32) :
  Calls Tryz.prog 22 #[v] w fun e w' => ∃ x y, e = .returned (.tuple #[x, y, .int .i64 0]) ∧ OwnG w [Rw.by 5 x (ekL d), Rw.by 5 y (dkL d)] w' := by
 obtain ⟨ti, hti, hz0, hz1, hz2⟩ := info_parts infoPo
 obtain ⟨ak, ck, rfl, -, -, -, -⟩ := id hd
 have h1 : ((d.length : Int) != 32) = false := by simp; omega
 have HD : Hid (Rd w (.slice ak d.length ck) d) := hd
 have HD32 : Hid _ := hd32
 clear hd hd32
 go_enter Tryz.func22, Tryz.ntmps22
 have hN1 : New 5 w (.slice none 0 0) [] w := New.start w
 go_wp2_with (at_builtin; go_must (refine wpList_append_new (w := w) rfl _ _ 22 rfl 5 Tryz.underlying22 infoB13 _ _ rfl hN1 _ _ rfl HD.out (by have := HD32.out; simp; omega) ?_))
 intro v2 w2 hN2 _
 clear hN1
 have hLt : Rd (w2.alloc (.cells #[.int .u8 3] 5)) (.slice (some ⟨w2.heap.size, 0, none⟩) 1 1) [3] := Rd.lit1 3 rfl
 go_wp2_with (at_builtin; go_must (refine wpList_append_new (w := w) rfl _ _ 22 rfl 5 Tryz.underlying22 infoB13 _ _ rfl (hN2.alloc _) _ _ rfl hLt (by have := HD32.out; simp; omega) ?_))
 intro v3 w3 hN3 _
 have hb3 := hN3.2
 have hr3 : Rd w3 v3 (d ++ [3]) := hN3.rd
 clear hN2 hLt hN3
 go_wp2_with fail
 refine (sum512R_any _ (d ++ [3]) (by have := HD32.out; simp; omega) _ hr3).mono ?_
 rintro e wg ⟨vg, rfl, hrg, bg3⟩
 have hbg := stepB hb3 bg3
 clear hb3 hr3 bg3
 obtain ⟨bg, og, cg, rfl, hcg, hmg, hrho, hs⟩ := gen_slice hrg (gnS_length d)
 have HRho : Hid (Rd wg (.slice (some ⟨bg, og, none⟩) 32 cg) ((gnS d).take 32)) := hrho
 have HS : Hid (Rd wg (.slice (some ⟨bg, og + 32, none⟩) 32 (cg - 32)) ((gnS d).drop 32)) := hs
 have HE : Hid (ekP ((gnS d).take 32) ((gnS d).drop 32) 3 ++ (gnS d).take 32 = ekL d) := by show _ = _; rfl
 have HK : Hid (dkP ((gnS d).drop 32) 3 = dkL d) := by show _ = _; rfl
 have HRl : Hid (((gnS d).take 32).length = 32) := by show _ = _; rw [List.length_take, gnS_length]; decide
 have HSl : Hid (((gnS d).drop 32).length = 32) := by show _ = _; rw [List.length_drop, gnS_length]
 generalize (gnS d).take 32 = rho at HRho HE HRl
 generalize (gnS d).drop 32 = s at HS HE HK HSl
 have HBg : Hid (Below w.heap.size w wg) := hbg
 unfold maxLen at hmg
 have y1 : ¬ cg = 32 := by omega
 have y2 : (64 : Int) ≤ (cg : Int) := by omega
 have y3 : (32 : Int) ≤ (cg : Int) := by omega
 clear hrg hrho hs hbg
 have hO0 : OwnG wg [⟨57, 256, .slice none 0 0, 0, prC13 (rwF s) 0⟩, Rw.by 5 (.slice none 0 0) (dkP s 0)] wg := ((OwnG.start wg).nilB 5).nil 57 256
 go_wp2
 go_loopw [12, 10, 11] (fun iv dv rv wx => ∃ i : Nat, i ≤ 3 ∧ iv = .int .i64 (i : Int) ∧ OwnG wg [⟨57, 256, rv, i, prC13 (rwF s) i⟩, Rw.by 5 dv (dkP s i)] wx) (fun iv _ _ _ => 3 - (intOf iv).toNat)
 case atStart => exact ⟨0, by omega, rfl, hO0⟩
 case round =>
  obtain ⟨i, hi, rfl, hO⟩ := hrel
  clear hO0
  by_cases hlt : i < 3
  ·have hd : decide ((i : Int) < 3) = true := decide_eq_true (by omega)
   have hiI : (i : Int) < 3 := by omega
   go_wp2_with fail
   refine (small13_any _ s i _ rfl (by rw [HSl.out]; decide) _ (HS.out.kept hO.below)).mono ?_
   rintro e w5 ⟨rfl, b5⟩
   replace hO := hO.kept b5
   clear b5
   go_wp2_with fail
   refine (forwardP (slF s i) _).mono ?_
   rintro e w6 ⟨rfl, b6⟩
   replace hO := hO.kept b6
   clear b6
   obtain ⟨f, hf⟩ : ∃ f : Nat → FZ, f = fwd (slF s i) := ⟨_, rfl⟩
   rw [← hf]
   have HF : Hid (f = rwF s i) := hf
   obtain ⟨V, hV⟩ : ∃ V : Value, V = poV f := ⟨_, rfl⟩
   rw [← hV]
   have HB1 : Hid (∀ w : World, (Instr.buildSlice 73 1 #[(0, V)]).run Tryz.prog w = .ok (.slice (some ⟨w.heap.size, 0, none⟩) 1 1) (w.alloc (.cells (poC f).toArray 57))) := fun w => by rw [hV]; exact build1_po f w
   clear hf hV
   go_wp2_with (refine wpList_build1 rfl 73 _ rfl V rfl 57 (poC f) (HB1.out _) ?_)
   intro w7 hblk b7
   replace hO := hO.kept b7
   have HNews : Hid _ := blk_news hblk
   clear b7 hblk HB1
   go_wp2_with (at_builtin; go_must (refine wpList_append_E rfl _ _ 73 rfl 57 ti _ 256 2048 Tryz.underlying73 hti hz0 hz1 hz2 (by rw [show (poV fun _ => 0).cells = (poC fun _ => 0).toArray from rfl, List.size_toArray, poC_length]) (by decide) _ i _ rfl hO ⟨w6.heap.size, 0, none⟩ 1 1 (poC f) rfl (by rw [poC_length]) HNews.out (ints_oneCell .i64 _) (by unfold maxLen; omega) (by omega) ?_))
   intro rv w8 hO8 _
   clear hO HNews
   have hrow : w8.ownsRow wg.heap.size 57 256 rv (i + 1) (prC13 (rwF s) i ++ poC f) := hO8.rows _ (List.mem_cons_self ..)
   obtain ⟨g, cap, more, rfl, hcap, hmax, hge, hblk⟩ := own_elem hrow (j := i) (show i < i + 1 by omega) (prC13 (rwF s) i) (poC f) [] (List.append_nil _).symm
   have hx8 : prC13 (rwF s) i ++ poC f = prC13 (rwF s) (i + 1) := by rw [HF.out]; rfl
   rw [hx8] at hO8
   obtain ⟨n1, hn1⟩ : ∃ n : Nat, n = i + 1 := ⟨_, rfl⟩
   rw [← hn1] at hO8 hcap ⊢
   have hin : (i : Int) < (n1 : Int) := by omega
   unfold maxLen at hmax
   have HN1 : Hid _ := hn1
   clear hn1 hrow
   go_wp2_with (first | refine wpList_load_part rfl 57 _ rfl rfl (prC13 (rwF s) i) (poC f) more hblk rfl (by rw [prC13_length]; omega) Tryz.underlying57 rfl (by rw [poC_length]; kernel_rfl) ?_)
   refine (packP 12 _ rfl (by decide) (by decide) f _).mono ?_
   rintro e w9 ⟨vp, rfl, hN9⟩
   have hO9 := (hO8.kept hN9.2).swap
   have hR9 := hN9.rd
   have HL9 : Hid ((dkP s i).length + (pkL 12 (fzF f)).length ≤ 140737488355328) := by
    show _ ≤ _
    rw [dkP_length, pkL_length]
    omega
   clear hO8 hN9 hblk hge hcap hmax
   go_wp2_with (at_builtin; go_must (refine wpList_append_G rfl _ _ 22 rfl Tryz.underlying22 infoB13 _ _ rfl hO9 _ _ rfl hR9 HL9.out ?_))
   intro dv wA hOA _
   have hxA : dkP s i ++ pkL 12 (fzF f) = dkP s (i + 1) := by rw [HF.out]; rfl
   rw [hxA, HN1.out] at hOA
   have HOA : Hid _ := hOA.swap
   clear hO9 hR9 hOA hxA hin HL9
   go_wp2
   go_roundw
   case rel => exact ⟨i + 1, by omega, by go_num, by have := HN1.out; subst this; exact HOA.out⟩
   case measure => simp [intOf] <;> omega
  ·have hie : i = 3 := by omega
   have hd : decide ((i : Int) < 3) = false := decide_eq_false (by omega)
   have hiI : (3 : Int) ≤ (i : Int) := by omega
   rw [hie] at hO
   clear hi hlt hie
   have hrow : wr.ownsRow wg.heap.size 57 256 u11 3 (prC13 (rwF s) 3) := hO.rows _ (List.mem_cons_self ..)
   obtain ⟨g, cap, more, ev, hcap, hmax, hge, -⟩ := own_elem hrow (j := 0) (by omega) [] [] (prC13 (rwF s) 3) (by rw [List.nil_append, List.nil_append])
   subst ev
   unfold maxLen at hmax
   have hO1 : OwnG wg [Rw.by 5 (.slice none 0 0) (ekP rho s 0), ⟨57, 256, .slice (some ⟨g, 0, none⟩) 3 cap, 3, prC13 (rwF s) 3⟩, Rw.by 5 u10 (dkP s 3)] wr := hO.nilB 5
   clear hO hrow
   go_wp2
   go_loopw [13, 9] (fun iv ev wx => ∃ i : Nat, i ≤ 3 ∧ iv = .int .i64 (i : Int) ∧ OwnG wg [Rw.by 5 ev (ekP rho s i), ⟨57, 256, .slice (some ⟨g, 0, none⟩) 3 cap, 3, prC13 (rwF s) 3⟩, Rw.by 5 u10 (dkP s 3)] wx) (fun iv _ _ => 3 - (intOf iv).toNat)
   case atStart => exact ⟨0, by omega, rfl, hO1⟩
   case round =>
    obtain ⟨i, hi, rfl, hO⟩ := hrel
    clear hO1
    by_cases hlt : i < 3
    ·have hd : decide ((i : Int) < 3) = true := decide_eq_true (by omega)
     have hiI : (i : Int) < 3 := by omega
     have x1 : IntKind.i64.wrap (3 + (i : Int)) = ((3 + i : Nat) : Int) := by rw [show 3 + (i : Int) = ((3 + i : Nat) : Int) by omega]; exact IntWalk.i64_in _ (by omega)
     go_wp2_with fail
     refine (small13_any _ s (3 + i) _ (by omega) (by rw [HSl.out]; decide) _ (HS.out.kept hO.below)).mono ?_
     rintro e w5 ⟨rfl, b5⟩
     replace hO := hO.kept b5
     clear b5 x1
     go_wp2_with fail
     refine (forwardP (slF s (3 + i)) _).mono ?_
     rintro e w6 ⟨rfl, b6⟩
     replace hO := hO.kept b6
     clear b6
     obtain ⟨f, hf⟩ : ∃ f : Nat → FZ, f = fwd (slF s (3 + i)) := ⟨_, rfl⟩
     rw [← hf]
     have HF : Hid (acF f (fun j => tm (enF rho i j) (rwF s j)) 3 = tF rho s i) := by show _ = _; rw [hf]; rfl
     clear hf
     go_wp2_with (refine wpList_alloc_row (k := .i64) rfl 57 rfl (gI fun _ => 0) (alloc_po _) (gI_ne _) (poMax _) ?_)
     intro w7 r7 b7 s7
     rw [gI_length] at r7
     have hlt6 := hO.lt
     have hs6 : wg.heap.size ≤ w6.heap.size := hO.below.size
     replace hO := hO.kept b7
     clear b7 s7
     go_wp2_with (refine wpList_store_row rfl 57 _ _ rfl (gI (fzF f)) rfl rfl r7 (by rw [gI_length, gI_length]) (poInfo _) ?_)
     intro w8 r8 hw8
     have HLt : Hid (∀ p ∈ [Rw.by 5 u9 (ekP rho s i), ⟨57, 256, .slice (some ⟨g, 0, none⟩) 3 cap, 3, prC13 (rwF s) 3⟩, Rw.by 5 u10 (dkP s 3)], ∀ b, p.v.ownBlock = some b → b ≠ w6.heap.size) := fun p hp b hb => by have := hlt6 p hp b hb; omega
     replace hO := hO.wrote hw8 hs6 HLt.out
     have hO8 : Hid (OwnG wg [Rw.by 5 u9 (ekP rho s i), ⟨57, 256, .slice (some ⟨g, 0, none⟩) 3 cap, 3, prC13 (rwF s) 3⟩, Rw.by 5 u10 (dkP s 3)] w8) := hO
     have r80 : RowAt .i64 57 w6.heap.size 256 (gI (fzF (acF f (fun j => tm (enF rho i j) (rwF s j)) 0))) w8 := r8
     clear r7 hw8 r8 hlt6 hO
     go_wp2
     go_loopw [15] (fun jv wx => ∃ j : Nat, j ≤ 3 ∧ jv = .int .i64 (j : Int) ∧ Hid (OwnG wg [Rw.by 5 u9 (ekP rho s i), ⟨57, 256, .slice (some ⟨g, 0, none⟩) 3 cap, 3, prC13 (rwF s) 3⟩, Rw.by 5 u10 (dkP s 3)] wx) ∧ RowAt .i64 57 w6.heap.size 256 (gI (fzF (acF f (fun j => tm (enF rho i j) (rwF s j)) j))) wx) (fun jv _ => 3 - (intOf jv).toNat)
     case atStart => exact ⟨0, by omega, rfl, hO8, r80⟩
     case round =>
      obtain ⟨j, hj, rfl, hO, rt⟩ := hrel
      clear hO8 r80
      by_cases hltj : j < 3
      ·have hdj : decide ((j : Int) < 3) = true := decide_eq_true (by omega)
       have hjI : (j : Int) < 3 := by omega
       obtain ⟨post, hpost⟩ := prC13_split (rwF s) j 3 hltj
       have hrow : wr.ownsRow wg.heap.size 57 256 (.slice (some ⟨g, 0, none⟩) 3 cap) 3 (prC13 (rwF s) 3) := hO.out.rows _ (List.mem_cons_of_mem _ (List.mem_cons_self ..))
       obtain ⟨g', cap', more', ev, -, -, -, hblk⟩ := own_elem hrow hltj (prC13 (rwF s) j) (poC (rwF s j)) post hpost
       simp only [Value.slice.injEq, Option.some.injEq, Addr.mk.injEq, and_true, true_and] at ev
       obtain ⟨rfl, rfl⟩ := ev
       obtain ⟨fj, hfj⟩ : ∃ f' : Nat → FZ, f' = acF f (fun j => tm (enF rho i j) (rwF s j)) j := ⟨_, rfl⟩
       obtain ⟨rj, hrj⟩ : ∃ f' : Nat → FZ, f' = rwF s j := ⟨_, rfl⟩
       rw [← hfj] at rt
       rw [← hrj] at hblk
       have HNx : Hid ((fun k => fj k + tm (enF rho i j) rj k) = acF f (fun j => tm (enF rho i j) (rwF s j)) (j + 1)) := by
        show _ = _
        rw [hfj, hrj]
        rfl
       have hg6 := rt.lt
       clear hpost hrow hfj hrj
       go_wp2_with fail
       refine wpE_begin 11 (by kernel_rfl) ?_
       refine wpE_t (i := 0) (oi := ⟨some 61, .load 57 (.tmp 14), 57, "ref.go:50", #[], none⟩) (v := ?_) ?_ ?_
       rotate_left
       ·intro W hW; refine Eq.trans (exec_load_row 57 _ (by rfl) (by rfl) rt hW _ Tryz.underlying57 rfl (poInfo _)) ?_; with_reducible rfl
       try simp only [Act.put, putA, putB, putC]
       refine wpE_t (i := 1) (oi := ⟨some 62, .move (.tmp 7), 22, "ref.go:50", #[], none⟩) (v := ?_) ?_ ?_
       rotate_left
       ·intro W hW; go_simp <;> with_reducible rfl
       try simp only [Act.put, putA, putB, putC]
       refine wpE_t (i := 2) (oi := ⟨some 63, .move (.tmp 13), 3, "ref.go:50", #[], none⟩) (v := ?_) ?_ ?_
       rotate_left
       ·intro W hW; go_simp <;> with_reducible rfl
       try simp only [Act.put, putA, putB, putC]
       refine wpE_t (i := 3) (oi := ⟨some 64, .move (.tmp 15), 3, "ref.go:50", #[], none⟩) (v := ?_) ?_ ?_
       rotate_left
       ·intro W hW; go_simp <;> with_reducible rfl
       try simp only [Act.put, putA, putB, putC]
       refine wpE_t (i := 5) (oi := ⟨some 66, .move (.tmp 11), 73, "ref.go:50", #[], none⟩) (v := ?_) ?_ ?_
       rotate_left
       ·intro W hW; go_simp <;> with_reducible rfl
       try simp only [Act.put, putA, putB, putC]
       refine wpE_t (i := 6) (oi := ⟨some 67, .move (.tmp 15), 3, "ref.go:50", #[], none⟩) (v := ?_) ?_ ?_
       rotate_left
       ·intro W hW; go_simp <;> with_reducible rfl
       try simp only [Act.put, putA, putB, putC]
       refine wpE_t (i := 7) (oi := ⟨some 68, .indexAddr 73 (.tmp 66) (.tmp 67), 0, "ref.go:50", #[⟨5, .data⟩, ⟨6, .data⟩], none⟩) (v := ?_) ?_ ?_
       rotate_left
       ·intro W hW; go_simp <;> with_reducible rfl
       try simp only [Act.put, putA, putB, putC]
       refine wpE_t (i := 8) (oi := ⟨some 69, .load 57 (.tmp 68), 57, "ref.go:50", #[⟨7, .data⟩], none⟩) (v := ?_) ?_ ?_
       rotate_left
       ·intro W hW; refine Eq.trans (exec_load_part 57 _ (by rfl) (by rfl) (prC13 (rwF s) j) (poC rj) more' hblk.drew hW rfl (by rw [prC13_length]; omega) Tryz.underlying57 rfl (by rw [poC_length]; kernel_rfl)) ?_; with_reducible rfl
       try simp only [Act.put, putA, putB, putC]
       refine wpE_do (i := 4) (o := ⟨some 65, .call { callee := .value (.func 55), args := #[.tmp 62, .tmp 63, .tmp 64], argTypes := #[22, 3, 3] }, 57, "ref.go:50", #[⟨1, .data⟩, ⟨2, .data⟩, ⟨3, .data⟩], none⟩) (by kernel_rfl) rfl (by rfl) fun K hK => ?_
       go_simp
       refine (entry13_any _ rho i j _ _ rfl rfl (by rw [HRl.out]; decide) _ (HRho.out.kept hO.out.below).drew).mono ?_
       rintro e wp ⟨rfl, bp⟩
       refine hK.out _ _ bp ?_
       clear hK K
       try simp only [Act.put, putA, putB, putC]
       refine wpE_do (i := 9) (o := ⟨some 70, .call { callee := .value (.func 54), args := #[.tmp 65, .tmp 69], argTypes := #[57, 57] }, 57, "ref.go:50", #[⟨4, .data⟩, ⟨8, .data⟩, ⟨4, .chain⟩], none⟩) (by kernel_rfl) rfl (by rfl) fun K hK => ?_
       go_simp
       refine (timesP (enF rho i j) rj _).mono ?_
       rintro e wq ⟨rfl, bq⟩
       refine hK.out _ _ bq ?_
       clear hK K
       try simp only [Act.put, putA, putB, putC]
       refine wpE_do (i := 10) (o := ⟨some 71, .call { callee := .value (.func 53), args := #[.tmp 61, .tmp 70], argTypes := #[57, 57] }, 57, "ref.go:50", #[⟨0, .data⟩, ⟨9, .data⟩, ⟨9, .chain⟩], none⟩) (by kernel_rfl) rfl (by rfl) fun K hK => ?_
       go_simp
       refine (plusP fj (tm (enF rho i j) rj) _).mono ?_
       rintro e wm ⟨rfl, bm⟩
       rw [HNx.out]
       refine hK.out _ _ bm ?_
       clear hK K
       try simp only [Act.put, putA, putB, putC]
       refine wpE_last (o := ⟨none, .store 57 (.tmp 14) (.tmp 71), 0, "ref.go:50", #[⟨10, .data⟩, ⟨10, .chain⟩, ⟨0, .phase⟩, ⟨1, .phase⟩, ⟨2, .phase⟩, ⟨3, .phase⟩, ⟨4, .phase⟩, ⟨5, .phase⟩, ⟨6, .phase⟩, ⟨7, .phase⟩, ⟨8, .phase⟩, ⟨9, .phase⟩, ⟨10, .phase⟩], none⟩) (by kernel_rfl) (by kernel_rfl) rfl (by rfl) fun K hK => ?_
       refine wp_store_row 57 _ _ rfl (gI (fzF (acF f (fun j => tm (enF rho i j) (rwF s j)) (j + 1)))) rfl rfl (((rt.drew.kept bp).kept bq).kept bm) (by rw [gI_length, gI_length]) (poInfo _) ?_
       intro wS rS hwS
       refine hK.out _ _ ?_
       clear hK K
       try simp only [Act.put, putA, putB, putC]
       have HOn : Hid (OwnG wg [Rw.by 5 u9 (ekP rho s i), ⟨57, 256, .slice (some ⟨g, 0, none⟩) 3 cap, 3, prC13 (rwF s) 3⟩, Rw.by 5 u10 (dkP s 3)] wS) := (((hO.out.drew.kept bp).kept bq).kept bm).wrote hwS hs6 HLt.out
       clear rt hblk bp bq bm hwS HNx hO
       go_wp2
       go_roundw
       case rel => exact ⟨j + 1, by omega, by go_num, HOn, rS⟩
       case measure => simp [intOf] <;> omega
      ·have hje : j = 3 := by omega
       have hdj : decide ((j : Int) < 3) = false := decide_eq_false (by omega)
       have hjI : (3 : Int) ≤ (j : Int) := by omega
       rw [hje, HF.out] at rt
       clear hj hltj hje
       have HNx : Hid (ekP rho s i ++ pkL 12 (fzF (tF rho s i)) = ekP rho s (i + 1)) := by show _ = _; rfl
       generalize tF rho s i = t at rt HNx HF
       go_wp2_with (refine wpList_load_row rfl 57 _ rfl rfl rt _ Tryz.underlying57 rfl (poInfo _) ?_)
       refine (packP 12 _ rfl (by decide) (by decide) t _).mono ?_
       rintro e w9 ⟨vp, rfl, hN9⟩
       have hO9 := hO.out.kept hN9.2
       have hR9 := hN9.rd
       have HL9 : Hid ((ekP rho s i).length + (pkL 12 (fzF t)).length ≤ 140737488355328) := by
        show _ ≤ _
        rw [ekP_length, pkL_length]
        omega
       clear hO hN9 rt
       go_wp2_with (at_builtin; go_must (refine wpList_append_G rfl _ _ 22 rfl Tryz.underlying22 infoB13 _ _ rfl hO9 _ _ rfl hR9 HL9.out ?_))
       intro dv wA hOA _
       rw [HNx.out] at hOA
       have HOA : Hid _ := hOA
       clear hO9 hR9 hOA HL9
       go_wp2
       go_roundw
       case rel => exact ⟨i + 1, by omega, by go_num, HOA.out⟩
       case measure => simp [intOf] <;> omega
    ·have hie : i = 3 := by omega
     have hd : decide ((i : Int) < 3) = false := decide_eq_false (by omega)
     have hiI : (3 : Int) ≤ (i : Int) := by omega
     rw [hie] at hO
     have hRr := HRho.out.kept hO.below
     have HL9 : Hid ((ekP rho s 3).length + rho.length ≤ 140737488355328) := by
      show _ ≤ _
      rw [ekP_length, HRl.out]
      omega
     clear hi hlt hie
     go_wp2_with (at_builtin; go_must (refine wpList_append_G rfl _ _ 22 rfl Tryz.underlying22 infoB13 _ _ rfl hO _ _ rfl hRr HL9.out ?_))
     intro ev wA hOA _
     rw [HE.out, HK.out] at hOA
     have HOA : Hid (OwnG w [Rw.by 5 ev (ekL d), Rw.by 5 u10 (dkL d)] wA) := (hOA.perm ((List.Perm.swap ..).trans (List.Perm.cons _ (List.Perm.refl _)))).tail.from HBg.out
     clear hO hRr hOA HL9
     go_wp2
     go_ret3
     exact ⟨ev, u10, rfl, HOA.out⟩
end Go.Proofs.YtmhbjaampobcbaaGreatDoor
