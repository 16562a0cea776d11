/- What the document's own encryption is: contracts of the reference of layer 13, fourth part. -/
import Derived.Test.YtmhbjaampobcbaaGreatDoorRef13c
namespace Go.Proofs.YtmhbjaampobcbaaGreatDoor
open Go.ChangeShapes Go.WideShapes Go.ChangeAt Go.RowKit
set_option linter.unusedSimpArgs false
set_option linter.unusedVariables false

set_option maxRecDepth 100000 in
set_option maxHeartbeats 8000000 in
theorem enc13_any (ve vm vr : Value) (ek m r : List UInt8) (w : World) (he : Rd w ve ek) (hm : Rd w vm m) (hr : Rd w vr r) (hel : ek.length = 1184) (hml : m.length = 32) (hrl : r.length = 32) :
  Calls Tryz.prog 32 #[ve, vm, vr] w fun e w' => ∃ x, e = .returned (.tuple #[x, .int .i64 0]) ∧ New 5 w x (ciL ek m r) w' := by
 obtain ⟨ti, hti, hz0, hz1, hz2⟩ := info_parts infoPo
 obtain ⟨a0, ce, ev, hce, hmc, -, h5⟩ := id he
 rcases h5 with h5 | ⟨be, oe, rfl, -⟩
 ·rw [h5] at hel
  simp at hel
 subst ev
 obtain ⟨am, cm, rfl, -, -, -, -⟩ := id hm
 obtain ⟨ar, cr, rfl, -, -, -, -⟩ := id hr
 rw [hel] at he hce ⊢
 rw [hml] at hm ⊢
 rw [hrl] at hr ⊢
 have hs := he.sub 1152 1184 (by omega) (by omega)
 have ht : (ek.drop 1152).take (1184 - 1152) = ek.drop 1152 := by rw [List.take_of_length_le (by rw [List.length_drop, hel]; decide)]
 rw [ht] at hs
 have HS : Hid (Rd w (.slice (some ⟨be, oe + 1152, none⟩) 32 (ce - 1152)) (ek.drop 1152)) := hs
 have HE : Hid (Rd w (.slice (some ⟨be, oe, none⟩) 1184 ce) ek) := he
 have HM : Hid (Rd w (.slice am 32 cm) m) := hm
 have HR : Hid (Rd w (.slice ar 32 cr) r) := hr
 have HEl : Hid _ := hel
 have HMl : Hid _ := hml
 have HRl : Hid _ := hrl
 unfold maxLen at hmc
 have y1 : ¬ ce = 1152 := by omega
 have y2 : (1184 : Int) ≤ (ce : Int) := by omega
 clear he hm hr hs ht hel hml hrl
 go_enter Tryz.func32, Tryz.ntmps32
 have hO0 : OwnG w [⟨57, 256, .slice none 0 0, 0, prC13 (rwF r) 0⟩] w := (OwnG.start w).nil 57 256
 go_wp2
 go_loopw [10, 9] (fun iv rv wx => ∃ i : Nat, i ≤ 3 ∧ iv = .int .i64 (i : Int) ∧ OwnG w [⟨57, 256, rv, i, prC13 (rwF r) i⟩] wx) (fun iv _ _ => 3 - (intOf iv).toNat)
 case atStart => exact ⟨0, by omega, rfl, hO0⟩
 case round =>
  obtain ⟨i, hi, rfl, hO⟩ := hrel
  clear hO0
  by_cases hlt : i < 3
  ·have hd : decide ((i : Int) < 3) = true := decide_eq_true (by omega)
   have hiI : (i : Int) < 3 := by omega
   go_wp2_with fail
   refine (small13_any _ r i _ rfl (by rw [HRl.out]; decide) _ (HR.out.kept hO.below)).mono ?_
   rintro e w5 ⟨rfl, b5⟩
   replace hO := hO.kept b5
   clear b5
   go_wp2_with fail
   refine (forwardP (slF r i) _).mono ?_
   rintro e w6 ⟨rfl, b6⟩
   replace hO := hO.kept b6
   clear b6
   obtain ⟨f, hf⟩ : ∃ f : Nat → FZ, f = fwd (slF r i) := ⟨_, rfl⟩
   rw [← hf]
   have HF : Hid (f = rwF r i) := hf
   obtain ⟨V, hV⟩ : ∃ V : Value, V = poV f := ⟨_, rfl⟩
   rw [← hV]
   have HB1 : Hid (∀ w : World, (Instr.buildSlice 73 1 #[(0, V)]).run Tryz.prog w = .ok (.slice (some ⟨w.heap.size, 0, none⟩) 1 1) (w.alloc (.cells (poC f).toArray 57))) := fun w => by rw [hV]; exact build1_po f w
   clear hf hV
   go_wp2_with (refine wpList_build1 rfl 73 _ rfl V rfl 57 (poC f) (HB1.out _) ?_)
   intro w7 hblk b7
   replace hO := hO.kept b7
   have HNews : Hid _ := blk_news hblk
   clear b7 hblk HB1
   go_wp2_with (at_builtin; go_must (refine wpList_append_E rfl _ _ 73 rfl 57 ti _ 256 2048 Tryz.underlying73 hti hz0 hz1 hz2 (by rw [show (poV fun _ => 0).cells = (poC fun _ => 0).toArray from rfl, List.size_toArray, poC_length]) (by decide) _ i _ rfl hO ⟨w6.heap.size, 0, none⟩ 1 1 (poC f) rfl (by rw [poC_length]) HNews.out (ints_oneCell .i64 _) (by unfold maxLen; omega) (by omega) ?_))
   intro rv w8 hO8 _
   have hx8 : prC13 (rwF r) i ++ poC f = prC13 (rwF r) (i + 1) := by rw [HF.out]; rfl
   rw [hx8] at hO8
   have HOA : Hid _ := hO8
   clear hO HNews hO8 hx8
   go_wp2
   go_roundw
   case rel => exact ⟨i + 1, by omega, by go_num, HOA.out⟩
   case measure => simp [intOf] <;> omega
  ·have hie : i = 3 := by omega
   have hd : decide ((i : Int) < 3) = false := decide_eq_false (by omega)
   have hiI : (3 : Int) ≤ (i : Int) := by omega
   rw [hie] at hO
   clear hi hlt hie
   have hrow : wr.ownsRow w.heap.size 57 256 u9 3 (prC13 (rwF r) 3) := hO.rows _ (List.mem_cons_self ..)
   obtain ⟨g, cap, more, ev, hcap, hmax, hge, -⟩ := own_elem hrow (j := 0) (by omega) [] [] (prC13 (rwF r) 3) (by rw [List.nil_append, List.nil_append])
   subst ev
   unfold maxLen at hmax
   have hO1 : OwnG w [Rw.by 5 (.slice none 0 0) (cuP ek r 0), ⟨57, 256, .slice (some ⟨g, 0, none⟩) 3 cap, 3, prC13 (rwF r) 3⟩] wr := hO.nilB 5
   clear hO hrow
   go_wp2
   go_loopw [11, 8] (fun iv ov wx => ∃ i : Nat, i ≤ 3 ∧ iv = .int .i64 (i : Int) ∧ OwnG w [Rw.by 5 ov (cuP ek r i), ⟨57, 256, .slice (some ⟨g, 0, none⟩) 3 cap, 3, prC13 (rwF r) 3⟩] wx) (fun iv _ _ => 3 - (intOf iv).toNat)
   case atStart => exact ⟨0, by omega, rfl, hO1⟩
   case round =>
    obtain ⟨i, hi, rfl, hO⟩ := hrel
    clear hO1
    by_cases hlt : i < 3
    ·have hd : decide ((i : Int) < 3) = true := decide_eq_true (by omega)
     have hiI : (i : Int) < 3 := by omega
     have HF : Hid (acF (fun _ => 0) (fun j => tm (enF (ek.drop 1152) j i) (rwF r j)) 3 = uF ek r i) := by show _ = _; rfl
     rename World => w6
     go_wp2_with (refine wpList_alloc_row (k := .i64) rfl 57 rfl (gI fun _ => 0) (alloc_po _) (gI_ne _) (poMax _) ?_)
     intro w8 r8 b7 s7
     rw [gI_length] at r8
     have hlt6 := hO.lt
     have hs6 : w.heap.size ≤ w6.heap.size := hO.below.size
     have hO8 : Hid (OwnG w [Rw.by 5 u8 (cuP ek r i), ⟨57, 256, .slice (some ⟨g, 0, none⟩) 3 cap, 3, prC13 (rwF r) 3⟩] w8) := hO.kept b7
     have HLt : Hid (∀ p ∈ [Rw.by 5 u8 (cuP ek r i), ⟨57, 256, .slice (some ⟨g, 0, none⟩) 3 cap, 3, prC13 (rwF r) 3⟩], ∀ b, p.v.ownBlock = some b → b ≠ w6.heap.size) := fun p hp b hb => by have := hlt6 p hp b hb; omega
     have r80 : RowAt .i64 57 w6.heap.size 256 (gI (fzF (acF (fun _ => 0) (fun j => tm (enF (ek.drop 1152) j i) (rwF r j)) 0))) w8 := r8
     clear r8 hlt6 hO b7 s7
     go_wp2
     go_loopw [13] (fun jv wx => ∃ j : Nat, j ≤ 3 ∧ jv = .int .i64 (j : Int) ∧ Hid (OwnG w [Rw.by 5 u8 (cuP ek r i), ⟨57, 256, .slice (some ⟨g, 0, none⟩) 3 cap, 3, prC13 (rwF r) 3⟩] wx) ∧ RowAt .i64 57 w6.heap.size 256 (gI (fzF (acF (fun _ => 0) (fun j => tm (enF (ek.drop 1152) j i) (rwF r j)) j))) wx) (fun jv _ => 3 - (intOf jv).toNat)
     case atStart => exact ⟨0, by omega, rfl, hO8, r80⟩
     case round =>
      obtain ⟨j, hj, rfl, hO, rt⟩ := hrel
      clear hO8 r80
      by_cases hltj : j < 3
      ·have hdj : decide ((j : Int) < 3) = true := decide_eq_true (by omega)
       have hjI : (j : Int) < 3 := by omega
       obtain ⟨post, hpost⟩ := prC13_split (rwF r) j 3 hltj
       have hrow : wr.ownsRow w.heap.size 57 256 (.slice (some ⟨g, 0, none⟩) 3 cap) 3 (prC13 (rwF r) 3) := hO.out.rows _ (List.mem_cons_of_mem _ (List.mem_cons_self ..))
       obtain ⟨g', cap', more', ev, -, -, -, hblk⟩ := own_elem hrow hltj (prC13 (rwF r) j) (poC (rwF r j)) post hpost
       simp only [Value.slice.injEq, Option.some.injEq, Addr.mk.injEq, and_true, true_and] at ev
       obtain ⟨rfl, rfl⟩ := ev
       obtain ⟨fj, hfj⟩ : ∃ f' : Nat → FZ, f' = acF (fun _ => 0) (fun j => tm (enF (ek.drop 1152) j i) (rwF r j)) j := ⟨_, rfl⟩
       obtain ⟨rj, hrj⟩ : ∃ f' : Nat → FZ, f' = rwF r j := ⟨_, rfl⟩
       rw [← hfj] at rt
       rw [← hrj] at hblk
       have HNx : Hid ((fun k => fj k + tm (enF (ek.drop 1152) j i) rj k) = acF (fun _ => 0) (fun j => tm (enF (ek.drop 1152) j i) (rwF r j)) (j + 1)) := by
        show _ = _
        rw [hfj, hrj]
        rfl
       have hg6 := rt.lt
       clear hpost hrow hfj hrj
       go_wp2_with fail
       refine wpE_begin 12 (by kernel_rfl) ?_
       refine wpE_t (i := 0) (oi := ⟨some 50, .load 57 (.tmp 12), 57, "ref.go:70", #[], none⟩) (v := ?_) ?_ ?_
       rotate_left
       ·intro W hW; refine Eq.trans (exec_load_row 57 _ (by rfl) (by rfl) rt hW _ Tryz.underlying57 rfl (poInfo _)) ?_; with_reducible rfl
       try simp only [Act.put, putA, putB, putC]
       refine wpE_t (i := 1) (oi := ⟨some 51, .move (.tmp 0), 22, "ref.go:70", #[], none⟩) (v := ?_) ?_ ?_
       rotate_left
       ·intro W hW; go_simp <;> with_reducible rfl
       try simp only [Act.put, putA, putB, putC]
       refine wpE_t (i := 2) (oi := ⟨some 52, .slice 22 (.tmp 51) (some (.const (.int .i64 1152))) none none, 22, "ref.go:70", #[⟨1, .data⟩], none⟩) (v := ?_) ?_ ?_
       rotate_left
       ·intro W hW; go_simp <;> with_reducible rfl
       try simp only [Act.put, putA, putB, putC]
       refine wpE_t (i := 3) (oi := ⟨some 53, .move (.tmp 13), 3, "ref.go:70", #[], none⟩) (v := ?_) ?_ ?_
       rotate_left
       ·intro W hW; go_simp <;> with_reducible rfl
       try simp only [Act.put, putA, putB, putC]
       refine wpE_t (i := 4) (oi := ⟨some 54, .move (.tmp 11), 3, "ref.go:70", #[], none⟩) (v := ?_) ?_ ?_
       rotate_left
       ·intro W hW; go_simp <;> with_reducible rfl
       try simp only [Act.put, putA, putB, putC]
       refine wpE_t (i := 6) (oi := ⟨some 56, .move (.tmp 9), 73, "ref.go:70", #[], none⟩) (v := ?_) ?_ ?_
       rotate_left
       ·intro W hW; go_simp <;> with_reducible rfl
       try simp only [Act.put, putA, putB, putC]
       refine wpE_t (i := 7) (oi := ⟨some 57, .move (.tmp 13), 3, "ref.go:70", #[], none⟩) (v := ?_) ?_ ?_
       rotate_left
       ·intro W hW; go_simp <;> with_reducible rfl
       try simp only [Act.put, putA, putB, putC]
       refine wpE_t (i := 8) (oi := ⟨some 58, .indexAddr 73 (.tmp 56) (.tmp 57), 0, "ref.go:70", #[⟨6, .data⟩, ⟨7, .data⟩], none⟩) (v := ?_) ?_ ?_
       rotate_left
       ·intro W hW; go_simp <;> with_reducible rfl
       try simp only [Act.put, putA, putB, putC]
       refine wpE_t (i := 9) (oi := ⟨some 59, .load 57 (.tmp 58), 57, "ref.go:70", #[⟨8, .data⟩], none⟩) (v := ?_) ?_ ?_
       rotate_left
       ·intro W hW; refine Eq.trans (exec_load_part 57 _ (by rfl) (by rfl) (prC13 (rwF r) j) (poC rj) more' hblk.drew hW rfl (by rw [prC13_length]; omega) Tryz.underlying57 rfl (by rw [poC_length]; kernel_rfl)) ?_; with_reducible rfl
       try simp only [Act.put, putA, putB, putC]
       refine wpE_do (i := 5) (o := ⟨some 55, .call { callee := .value (.func 55), args := #[.tmp 52, .tmp 53, .tmp 54], argTypes := #[22, 3, 3] }, 57, "ref.go:70", #[⟨2, .data⟩, ⟨3, .data⟩, ⟨4, .data⟩], none⟩) (by kernel_rfl) rfl (by rfl) fun K hK => ?_
       go_simp
       refine (entry13_any _ (ek.drop 1152) j i _ _ rfl rfl (by rw [List.length_drop, HEl.out]; decide) _ (HS.out.kept hO.out.below).drew).mono ?_
       rintro e wp ⟨rfl, bp⟩
       refine hK.out _ _ bp ?_
       clear hK K
       try simp only [Act.put, putA, putB, putC]
       refine wpE_do (i := 10) (o := ⟨some 60, .call { callee := .value (.func 54), args := #[.tmp 55, .tmp 59], argTypes := #[57, 57] }, 57, "ref.go:70", #[⟨5, .data⟩, ⟨9, .data⟩, ⟨5, .chain⟩], none⟩) (by kernel_rfl) rfl (by rfl) fun K hK => ?_
       go_simp
       refine (timesP (enF (ek.drop 1152) j i) rj _).mono ?_
       rintro e wq ⟨rfl, bq⟩
       refine hK.out _ _ bq ?_
       clear hK K
       try simp only [Act.put, putA, putB, putC]
       refine wpE_do (i := 11) (o := ⟨some 61, .call { callee := .value (.func 53), args := #[.tmp 50, .tmp 60], argTypes := #[57, 57] }, 57, "ref.go:70", #[⟨0, .data⟩, ⟨10, .data⟩, ⟨10, .chain⟩], none⟩) (by kernel_rfl) rfl (by rfl) fun K hK => ?_
       go_simp
       refine (plusP fj (tm (enF (ek.drop 1152) j i) rj) _).mono ?_
       rintro e wm ⟨rfl, bm⟩
       rw [HNx.out]
       refine hK.out _ _ bm ?_
       clear hK K
       try simp only [Act.put, putA, putB, putC]
       refine wpE_last (o := ⟨none, .store 57 (.tmp 12) (.tmp 61), 0, "ref.go:70", #[⟨11, .data⟩, ⟨11, .chain⟩, ⟨0, .phase⟩, ⟨1, .phase⟩, ⟨2, .phase⟩, ⟨3, .phase⟩, ⟨4, .phase⟩, ⟨5, .phase⟩, ⟨6, .phase⟩, ⟨7, .phase⟩, ⟨8, .phase⟩, ⟨9, .phase⟩, ⟨10, .phase⟩, ⟨11, .phase⟩], none⟩) (by kernel_rfl) (by kernel_rfl) rfl (by rfl) fun K hK => ?_
       refine wp_store_row 57 _ _ rfl (gI (fzF (acF (fun _ => 0) (fun j => tm (enF (ek.drop 1152) j i) (rwF r j)) (j + 1)))) rfl rfl (((rt.drew.kept bp).kept bq).kept bm) (by rw [gI_length, gI_length]) (poInfo _) ?_
       intro wS rS hwS
       refine hK.out _ _ ?_
       clear hK K
       try simp only [Act.put, putA, putB, putC]
       have HOn : Hid (OwnG w [Rw.by 5 u8 (cuP ek r i), ⟨57, 256, .slice (some ⟨g, 0, none⟩) 3 cap, 3, prC13 (rwF r) 3⟩] wS) := (((hO.out.drew.kept bp).kept bq).kept bm).wrote hwS hs6 HLt.out
       clear rt hblk bp bq bm hwS HNx hO
       go_wp2
       go_roundw
       case rel => exact ⟨j + 1, by omega, by go_num, HOn, rS⟩
       case measure => simp [intOf] <;> omega
      ·have hje : j = 3 := by omega
       have hdj : decide ((j : Int) < 3) = false := decide_eq_false (by omega)
       have hjI : (3 : Int) ≤ (j : Int) := by omega
       rw [hje, HF.out] at rt
       clear hj hltj hje
       have x1 : IntKind.i64.wrap (3 + (i : Int)) = ((3 + i : Nat) : Int) := by rw [show 3 + (i : Int) = ((3 + i : Nat) : Int) by omega]; exact IntWalk.i64_in _ (by omega)
       go_wp2_with (refine wpList_load_row rfl 57 _ rfl rfl rt _ Tryz.underlying57 rfl (poInfo _) ?_)
       refine (inverseP (uF ek r i) _).mono ?_
       rintro e wb ⟨rfl, bb⟩
       replace rt := rt.kept bb
       have hOb := hO.out.kept bb
       clear bb hO
       go_wp2_with fail
       refine (small13_any _ r (3 + i) _ (by omega) (by rw [HRl.out]; decide) _ (HR.out.kept hOb.below)).mono ?_
       rintro e wc ⟨rfl, bc⟩
       replace rt := rt.kept bc
       replace hOb := hOb.kept bc
       clear bc x1
       go_wp2_with fail
       refine (plusP (inw (uF ek r i)) (slF r (3 + i)) _).mono ?_
       rintro e wd ⟨rfl, bd⟩
       replace rt := rt.kept bd
       replace hOb := hOb.kept bd
       have HU : Hid ((fun k => inw (uF ek r i) k + slF r (3 + i) k) = UF ek r i) := by show _ = _; rfl
       rw [HU.out]
       have HNx : Hid (cuP ek r i ++ pkL 10 (sqI 10 (UF ek r i)) = cuP ek r (i + 1)) := by show _ = _; rfl
       generalize UF ek r i = U at HU HNx ⊢
       clear bd HU
       go_wp2_with (refine wpList_store_row rfl 57 _ _ rfl (gI (fzF U)) rfl rfl rt (by rw [gI_length, gI_length]) (poInfo _) ?_)
       intro we re hwe
       replace hOb := hOb.wrote hwe hs6 HLt.out
       clear rt hwe
       go_wp2_with (refine wpList_load_row rfl 57 _ rfl rfl re _ Tryz.underlying57 rfl (poInfo _) ?_)
       refine (squeezeP 10 _ rfl U _).mono ?_
       rintro e wf ⟨rfl, bf⟩
       replace hOb := hOb.kept bf
       clear bf re
       go_wp2_with fail
       refine (packS 10 10 _ rfl (by decide) (by decide) U _).mono ?_
       rintro e w9 ⟨vp, rfl, hN9⟩
       have hO9 := hOb.kept hN9.2
       have hR9 := hN9.rd
       have HL9 : Hid ((cuP ek r i).length + (pkL 10 (sqI 10 U)).length ≤ 140737488355328) := by
        show _ ≤ _
        rw [cuP_length, pkL_length]
        omega
       clear hOb hN9
       go_wp2_with (at_builtin; go_must (refine wpList_append_G rfl _ _ 22 rfl Tryz.underlying22 infoB13 _ _ rfl hO9 _ _ rfl hR9 HL9.out ?_))
       intro dv wA hOA _
       rw [HNx.out] at hOA
       have HOA : Hid _ := hOA
       clear hO9 hR9 hOA HL9
       go_wp2
       go_roundw
       case rel => exact ⟨i + 1, by omega, by go_num, HOA.out⟩
       case measure => simp [intOf] <;> omega
    ·have hie : i = 3 := by omega
     have hd : decide ((i : Int) < 3) = false := decide_eq_false (by omega)
     have hiI : (3 : Int) ≤ (i : Int) := by omega
     rw [hie] at hO
     clear hi hlt hie
     rename World => w6
     go_wp2_with (refine wpList_alloc_row (k := .i64) rfl 57 rfl (gI fun _ => 0) (alloc_po _) (gI_ne _) (poMax _) ?_)
     intro w8 r8 b7 s7
     rw [gI_length] at r8
     have hlt6 := hO.lt
     have hs6 : w.heap.size ≤ w6.heap.size := hO.below.size
     have hO8 : Hid (OwnG w [Rw.by 5 u8 (cuP ek r 3), ⟨57, 256, .slice (some ⟨g, 0, none⟩) 3 cap, 3, prC13 (rwF r) 3⟩] w8) := hO.kept b7
     have HLt : Hid (∀ p ∈ [Rw.by 5 u8 (cuP ek r 3), ⟨57, 256, .slice (some ⟨g, 0, none⟩) 3 cap, 3, prC13 (rwF r) 3⟩], ∀ b, p.v.ownBlock = some b → b ≠ w6.heap.size) := fun p hp b hb => by have := hlt6 p hp b hb; omega
     have r80 : RowAt .i64 57 w6.heap.size 256 (gI (fzF (acF (fun _ => 0) (fun i => tm (ptF 12 ek i) (rwF r i)) 0))) w8 := r8
     clear r8 hlt6 hO b7 s7
     go_wp2
     go_loopw [15] (fun jv wx => ∃ j : Nat, j ≤ 3 ∧ jv = .int .i64 (j : Int) ∧ Hid (OwnG w [Rw.by 5 u8 (cuP ek r 3), ⟨57, 256, .slice (some ⟨g, 0, none⟩) 3 cap, 3, prC13 (rwF r) 3⟩] wx) ∧ RowAt .i64 57 w6.heap.size 256 (gI (fzF (acF (fun _ => 0) (fun i => tm (ptF 12 ek i) (rwF r i)) j))) wx) (fun jv _ => 3 - (intOf jv).toNat)
     case atStart => exact ⟨0, by omega, rfl, hO8, r80⟩
     case round =>
      obtain ⟨j, hj, rfl, hO, rt⟩ := hrel
      clear hO8 r80
      by_cases hltj : j < 3
      ·have hdj : decide ((j : Int) < 3) = true := decide_eq_true (by omega)
       have hjI : (j : Int) < 3 := by omega
       obtain ⟨post, hpost⟩ := prC13_split (rwF r) j 3 hltj
       have hrow : wr.ownsRow w.heap.size 57 256 (.slice (some ⟨g, 0, none⟩) 3 cap) 3 (prC13 (rwF r) 3) := hO.out.rows _ (List.mem_cons_of_mem _ (List.mem_cons_self ..))
       obtain ⟨g', cap', more', ev, -, -, -, hblk⟩ := own_elem hrow hltj (prC13 (rwF r) j) (poC (rwF r j)) post hpost
       simp only [Value.slice.injEq, Option.some.injEq, Addr.mk.injEq, and_true, true_and] at ev
       obtain ⟨rfl, rfl⟩ := ev
       obtain ⟨fj, hfj⟩ : ∃ f' : Nat → FZ, f' = acF (fun _ => 0) (fun i => tm (ptF 12 ek i) (rwF r i)) j := ⟨_, rfl⟩
       obtain ⟨rj, hrj⟩ : ∃ f' : Nat → FZ, f' = rwF r j := ⟨_, rfl⟩
       rw [← hfj] at rt
       rw [← hrj] at hblk
       have HNx : Hid ((fun k => fj k + tm (ptF 12 ek j) rj k) = acF (fun _ => 0) (fun i => tm (ptF 12 ek i) (rwF r i)) (j + 1)) := by
        show _ = _
        rw [hfj, hrj]
        rfl
       have hg6 := rt.lt
       clear hpost hrow hfj hrj
       go_wp2_with fail
       refine wpE_begin 10 (by kernel_rfl) ?_
       refine wpE_t (i := 0) (oi := ⟨some 78, .load 57 (.tmp 14), 57, "ref.go:77", #[], none⟩) (v := ?_) ?_ ?_
       rotate_left
       ·intro W hW; refine Eq.trans (exec_load_row 57 _ (by rfl) (by rfl) rt hW _ Tryz.underlying57 rfl (poInfo _)) ?_; with_reducible rfl
       try simp only [Act.put, putA, putB, putC]
       refine wpE_t (i := 1) (oi := ⟨some 79, .move (.tmp 0), 22, "ref.go:77", #[], none⟩) (v := ?_) ?_ ?_
       rotate_left
       ·intro W hW; go_simp <;> with_reducible rfl
       try simp only [Act.put, putA, putB, putC]
       refine wpE_t (i := 2) (oi := ⟨some 80, .move (.tmp 15), 3, "ref.go:77", #[], none⟩) (v := ?_) ?_ ?_
       rotate_left
       ·intro W hW; go_simp <;> with_reducible rfl
       try simp only [Act.put, putA, putB, putC]
       refine wpE_t (i := 4) (oi := ⟨some 82, .move (.tmp 9), 73, "ref.go:77", #[], none⟩) (v := ?_) ?_ ?_
       rotate_left
       ·intro W hW; go_simp <;> with_reducible rfl
       try simp only [Act.put, putA, putB, putC]
       refine wpE_t (i := 5) (oi := ⟨some 83, .move (.tmp 15), 3, "ref.go:77", #[], none⟩) (v := ?_) ?_ ?_
       rotate_left
       ·intro W hW; go_simp <;> with_reducible rfl
       try simp only [Act.put, putA, putB, putC]
       refine wpE_t (i := 6) (oi := ⟨some 84, .indexAddr 73 (.tmp 82) (.tmp 83), 0, "ref.go:77", #[⟨4, .data⟩, ⟨5, .data⟩], none⟩) (v := ?_) ?_ ?_
       rotate_left
       ·intro W hW; go_simp <;> with_reducible rfl
       try simp only [Act.put, putA, putB, putC]
       refine wpE_t (i := 7) (oi := ⟨some 85, .load 57 (.tmp 84), 57, "ref.go:77", #[⟨6, .data⟩], none⟩) (v := ?_) ?_ ?_
       rotate_left
       ·intro W hW; refine Eq.trans (exec_load_part 57 _ (by rfl) (by rfl) (prC13 (rwF r) j) (poC rj) more' hblk.drew hW rfl (by rw [prC13_length]; omega) Tryz.underlying57 rfl (by rw [poC_length]; kernel_rfl)) ?_; with_reducible rfl
       try simp only [Act.put, putA, putB, putC]
       refine wpE_do (i := 3) (o := ⟨some 81, .call { callee := .value (.func 63), args := #[.const (.int .i64 12), .tmp 79, .tmp 80], argTypes := #[3, 22, 3] }, 57, "ref.go:77", #[⟨1, .data⟩, ⟨2, .data⟩], none⟩) (by kernel_rfl) rfl (by rfl) fun K hK => ?_
       go_simp
       refine (part13_any 12 j _ _ rfl rfl (by decide) (by decide) _ ek (by rw [HEl.out]; omega) (by rw [HEl.out]; decide) _ (HE.out.kept hO.out.below).drew).mono ?_
       rintro e wp ⟨rfl, bp⟩
       refine hK.out _ _ bp ?_
       clear hK K
       try simp only [Act.put, putA, putB, putC]
       refine wpE_do (i := 8) (o := ⟨some 86, .call { callee := .value (.func 54), args := #[.tmp 81, .tmp 85], argTypes := #[57, 57] }, 57, "ref.go:77", #[⟨3, .data⟩, ⟨7, .data⟩, ⟨3, .chain⟩], none⟩) (by kernel_rfl) rfl (by rfl) fun K hK => ?_
       go_simp
       refine (timesP (ptF 12 ek j) rj _).mono ?_
       rintro e wq ⟨rfl, bq⟩
       refine hK.out _ _ bq ?_
       clear hK K
       try simp only [Act.put, putA, putB, putC]
       refine wpE_do (i := 9) (o := ⟨some 87, .call { callee := .value (.func 53), args := #[.tmp 78, .tmp 86], argTypes := #[57, 57] }, 57, "ref.go:77", #[⟨0, .data⟩, ⟨8, .data⟩, ⟨8, .chain⟩], none⟩) (by kernel_rfl) rfl (by rfl) fun K hK => ?_
       go_simp
       refine (plusP fj (tm (ptF 12 ek j) rj) _).mono ?_
       rintro e wm ⟨rfl, bm⟩
       rw [HNx.out]
       refine hK.out _ _ bm ?_
       clear hK K
       try simp only [Act.put, putA, putB, putC]
       refine wpE_last (o := ⟨none, .store 57 (.tmp 14) (.tmp 87), 0, "ref.go:77", #[⟨9, .data⟩, ⟨9, .chain⟩, ⟨0, .phase⟩, ⟨1, .phase⟩, ⟨2, .phase⟩, ⟨3, .phase⟩, ⟨4, .phase⟩, ⟨5, .phase⟩, ⟨6, .phase⟩, ⟨7, .phase⟩, ⟨8, .phase⟩, ⟨9, .phase⟩], none⟩) (by kernel_rfl) (by kernel_rfl) rfl (by rfl) fun K hK => ?_
       refine wp_store_row 57 _ _ rfl (gI (fzF (acF (fun _ => 0) (fun i => tm (ptF 12 ek i) (rwF r i)) (j + 1)))) rfl rfl (((rt.drew.kept bp).kept bq).kept bm) (by rw [gI_length, gI_length]) (poInfo _) ?_
       intro wS rS hwS
       refine hK.out _ _ ?_
       clear hK K
       try simp only [Act.put, putA, putB, putC]
       have HOn : Hid (OwnG w [Rw.by 5 u8 (cuP ek r 3), ⟨57, 256, .slice (some ⟨g, 0, none⟩) 3 cap, 3, prC13 (rwF r) 3⟩] wS) := (((hO.out.drew.kept bp).kept bq).kept bm).wrote hwS hs6 HLt.out
       clear rt hblk bp bq bm hwS HNx hO
       go_wp2
       go_roundw
       case rel => exact ⟨j + 1, by omega, by go_num, HOn, rS⟩
       case measure => simp [intOf] <;> omega
      ·have hje : j = 3 := by omega
       have hdj : decide ((j : Int) < 3) = false := decide_eq_false (by omega)
       have hjI : (3 : Int) ≤ (j : Int) := by omega
       have HF : Hid (acF (fun _ => 0) (fun i => tm (ptF 12 ek i) (rwF r i)) 3 = vF ek r) := by show _ = _; rfl
       rw [hje, HF.out] at rt
       clear hj hltj hje HF
       have hg6 := rt.lt
       go_wp2_with fail
       refine (unpack12_any 1 _ rfl (by decide) (by decide) _ m _ (HM.out.kept hO.out.below) HMl.out).mono ?_
       rintro e wb ⟨rfl, bb⟩
       replace rt := rt.kept bb
       have hOb := hO.out.kept bb
       have nb := bb.size
       clear bb hO
       go_wp2_with (refine wpList_alloc_row (k := .i64) rfl 57 rfl (gI fun _ => 0) (alloc_po _) (gI_ne _) (poMax _) ?_)
       intro wc rc bc sc
       rw [gI_length] at rc
       replace rt := rt.kept bc
       have hltb := hOb.lt
       have hsb : w.heap.size ≤ wb.heap.size := hOb.below.size
       replace hOb := hOb.kept bc
       clear bc sc
       go_wp2_with (refine wpList_store_row rfl 57 _ _ rfl (gI (fzF (upF 1 m))) rfl rfl rc (by rw [gI_length, gI_length]) (poInfo _) ?_)
       intro wd rd hwd
       replace rt := rt.wrote hwd (by omega)
       replace hOb := hOb.wrote hwd hsb (fun p hp b hb => by have := hltb p hp b hb; omega)
       clear rc hwd hltb
       go_wp2_with fail
       refine wpE_begin 8 (by kernel_rfl) ?_
       refine wpE_t (i := 0) (oi := ⟨some 93, .load 57 (.tmp 14), 57, "ref.go:80", #[], none⟩) (v := ?_) ?_ ?_
       rotate_left
       ·intro W hW; refine Eq.trans (exec_load_row 57 _ (by rfl) (by rfl) rt hW _ Tryz.underlying57 rfl (poInfo _)) ?_; with_reducible rfl
       try simp only [Act.put, putA, putB, putC]
       refine wpE_t (i := 2) (oi := ⟨some 95, .move (.tmp 2), 22, "ref.go:80", #[], none⟩) (v := ?_) ?_ ?_
       rotate_left
       ·intro W hW; go_simp <;> with_reducible rfl
       try simp only [Act.put, putA, putB, putC]
       refine wpE_t (i := 5) (oi := ⟨some 98, .load 57 (.tmp 16), 57, "ref.go:80", #[], none⟩) (v := ?_) ?_ ?_
       rotate_left
       ·intro W hW; refine Eq.trans (exec_load_row 57 _ (by rfl) (by rfl) rd hW _ Tryz.underlying57 rfl (poInfo _)) ?_; with_reducible rfl
       try simp only [Act.put, putA, putB, putC]
       refine wpE_do (i := 1) (o := ⟨some 94, .call { callee := .value (.func 61), args := #[.tmp 93], argTypes := #[57] }, 57, "ref.go:80", #[⟨0, .data⟩], none⟩) (by kernel_rfl) rfl (by rfl) fun K hK => ?_
       go_simp
       refine (inverseP (vF ek r) _).mono ?_
       rintro e w1 ⟨rfl, b1⟩
       refine hK.out _ _ b1 ?_
       clear hK K
       try simp only [Act.put, putA, putB, putC]
       refine wpE_do (i := 3) (o := ⟨some 96, .call { callee := .value (.func 51), args := #[.tmp 95, .const (.int .i64 6)], argTypes := #[22, 3] }, 57, "ref.go:80", #[⟨2, .data⟩, ⟨1, .chain⟩], none⟩) (by kernel_rfl) rfl (by rfl) fun K hK => ?_
       go_simp
       refine (small13_any _ r 6 _ rfl (by rw [HRl.out]; decide) _ ((HR.out.kept hOb.below).drew.kept b1)).mono ?_
       rintro e w2 ⟨rfl, b2⟩
       refine hK.out _ _ b2 ?_
       clear hK K
       try simp only [Act.put, putA, putB, putC]
       refine wpE_do (i := 4) (o := ⟨some 97, .call { callee := .value (.func 53), args := #[.tmp 94, .tmp 96], argTypes := #[57, 57] }, 57, "ref.go:80", #[⟨1, .data⟩, ⟨3, .data⟩, ⟨3, .chain⟩], none⟩) (by kernel_rfl) rfl (by rfl) fun K hK => ?_
       go_simp
       refine (plusP (inw (vF ek r)) (slF r 6) _).mono ?_
       rintro e w3 ⟨rfl, b3⟩
       refine hK.out _ _ b3 ?_
       clear hK K
       try simp only [Act.put, putA, putB, putC]
       refine wpE_do (i := 6) (o := ⟨some 99, .call { callee := .value (.func 65), args := #[.const (.int .i64 1), .tmp 98], argTypes := #[3, 57] }, 57, "ref.go:80", #[⟨5, .data⟩, ⟨4, .chain⟩], none⟩) (by kernel_rfl) rfl (by rfl) fun K hK => ?_
       go_simp
       refine (spreadP 1 _ rfl (upF 1 m) _).mono ?_
       rintro e w4 ⟨rfl, b4⟩
       refine hK.out _ _ b4 ?_
       clear hK K
       try simp only [Act.put, putA, putB, putC]
       refine wpE_do (i := 7) (o := ⟨some 100, .call { callee := .value (.func 53), args := #[.tmp 97, .tmp 99], argTypes := #[57, 57] }, 57, "ref.go:80", #[⟨4, .data⟩, ⟨6, .data⟩, ⟨6, .chain⟩], none⟩) (by kernel_rfl) rfl (by rfl) fun K hK => ?_
       go_simp
       refine (plusP (fun k => inw (vF ek r) k + slF r 6 k) (spF 1 (upF 1 m)) _).mono ?_
       rintro e w5 ⟨rfl, b5⟩
       refine hK.out _ _ b5 ?_
       clear hK K
       try simp only [Act.put, putA, putB, putC]
       refine wpE_last (o := ⟨none, .store 57 (.tmp 14) (.tmp 100), 0, "ref.go:80", #[⟨7, .data⟩, ⟨7, .chain⟩, ⟨0, .phase⟩, ⟨1, .phase⟩, ⟨2, .phase⟩, ⟨3, .phase⟩, ⟨4, .phase⟩, ⟨5, .phase⟩, ⟨6, .phase⟩, ⟨7, .phase⟩], none⟩) (by kernel_rfl) (by kernel_rfl) rfl (by rfl) fun K hK => ?_
       refine wp_store_row 57 _ _ rfl (gI (fzF (VF ek m r))) rfl rfl (((((rt.drew.kept b1).kept b2).kept b3).kept b4).kept b5) (by rw [gI_length, gI_length]) (poInfo _) ?_
       intro wS rS hwS
       refine hK.out _ _ ?_
       clear hK K
       try simp only [Act.put, putA, putB, putC]
       have hOn := (((((hOb.drew.kept b1).kept b2).kept b3).kept b4).kept b5).wrote hwS hs6 HLt.out
       have HNx : Hid (cuP ek r 3 ++ pkL 4 (sqI 4 (VF ek m r)) = ciL ek m r) := by show _ = _; rfl
       generalize VF ek m r = U at rS HNx
       clear rt rd hOb b1 b2 b3 b4 b5 hwS
       go_wp2_with (refine wpList_load_row rfl 57 _ rfl rfl rS _ Tryz.underlying57 rfl (poInfo _) ?_)
       refine (squeezeP 4 _ rfl U _).mono ?_
       rintro e wf ⟨rfl, bf⟩
       replace hOn := hOn.kept bf
       clear bf rS
       go_wp2_with fail
       refine (packS 4 4 _ rfl (by decide) (by decide) U _).mono ?_
       rintro e w9 ⟨vp, rfl, hN9⟩
       have hO9 := hOn.kept hN9.2
       have hR9 := hN9.rd
       have HL9 : Hid ((cuP ek r 3).length + (pkL 4 (sqI 4 U)).length ≤ 140737488355328) := by
        show _ ≤ _
        rw [cuP_length, pkL_length]
        omega
       clear hOn hN9
       go_wp2_with (at_builtin; go_must (refine wpList_append_G rfl _ _ 22 rfl Tryz.underlying22 infoB13 _ _ rfl hO9 _ _ rfl hR9 HL9.out ?_))
       intro dv wA hOA _
       rw [HNx.out] at hOA
       have HNw : Hid (New 5 w dv (ciL ek m r) wA) := hOA.toNew
       clear hO9 hR9 hOA HL9
       go_wp2
       go_ret2
       exact ⟨dv, rfl, HNw.out⟩
end Go.Proofs.YtmhbjaampobcbaaGreatDoor
