/- What the document's own rounds answer: contracts of the reference of layer 2, fourth part: the constants' bits, Iota, Round, F. -/
import Derived.Test.YtiffdfpkfcielabDoorRef02c
import Derived.Test.YtiffdfpkfcielabDoorKMath3
namespace Go.Proofs.YtiffdfpkfcielabDoor
open Go.ChangeShapes Go.WideShapes Go.ChangeAt Go.RowKit
set_option linter.unusedSimpArgs false
set_option linter.unusedVariables false

theorem infoInt : (Tryd.prog.info? 3).map (fun i => (i.zero, i.size, i.bytes)) = some (some (.int .i64 0), 1, 8) := by kernel_rfl
theorem sizeU64 : (Tryd.prog.info? 22).map (·.size) = some 1 := by kernel_rfl
theorem slice0I (a : Option Addr) (c : Nat) : (if c = 0 then a else a.map (fun x => x.add 0)) = a := by
  cases a with
  | none => simp
  | some x => simp [Addr.add]

set_option maxHeartbeats 4000000 in
theorem rc_any (t : Nat) (ht : t ≤ 1000) (w : World) :
    Calls Tryd.prog 30 #[.int .i64 (t : Int)] w fun e w' => e = .returned (.int .i64 ((rcS (t % 255)).getD 0 0)) ∧ Below w.heap.size w w' := by
  obtain ⟨n, hn⟩ : ∃ n : Nat, n = t % 255 := ⟨_, rfl⟩
  have hni : (t : Int) % 255 = (n : Int) := by omega
  have hn2 : n < 255 := by omega
  rw [← hn]
  clear hn
  go_enter Tryd.func30, Tryd.ntmps30
  go_wp2_with fail
  have hR0 : RdI .i64 (w.alloc (.cells #[.int .i64 1, .int .i64 0, .int .i64 0, .int .i64 0, .int .i64 0, .int .i64 0, .int .i64 0, .int .i64 0] 3)) (.slice (some ⟨w.heap.size, 0, none⟩) 8 8) (rcS 0) :=
    (NewI.lit (k := .i64) (e := 3) (rcS 0) (by simp [rcS]) rfl rfl (by simp [maxLen, rcS])).rd
  go_loopw [3, 4] (fun r i wr => ∃ m : Nat, m ≤ n ∧ i = .int .i64 m ∧ RdI .i64 wr r (rcS m) ∧ Below w.heap.size w wr) (fun _ i _ => n - (intOf i).toNat)
  case atStart => exact ⟨0, Nat.zero_le _, rfl, hR0, growB _⟩
  case round =>
    obtain ⟨m, hm, rfl, hR, hB⟩ := hrel
    clear hR0
    obtain ⟨a, b, c, d, e, f, g, h, he, ha, hb, hc, hd, he', hf, hg, hh⟩ := rcS_ok m
    by_cases hlt : m < n
    · have HS : Hid (rcS (m + 1) = [h % 2, a, b, c, (d + h) % 2, (e + h) % 2, (f + h) % 2, g]) := by show rcStep (rcS m) = _; rw [he]; rfl
      rw [he] at hR
      have hlt' : (m : Int) < (t : Int) % 255 := by omega
      clear he hni
      obtain ⟨a1, a2⟩ := ha
      obtain ⟨d1, d2⟩ := hd
      obtain ⟨e1, e2⟩ := he'
      obtain ⟨f1, f2⟩ := hf
      obtain ⟨h1, h2⟩ := hh
      have hNl : NewI .i64 3 wr (.slice (some ⟨wr.heap.size, 0, none⟩) 1 1) [0] (wr.alloc (.cells #[.int .i64 0] 3)) := NewI.lit [0] (by simp) rfl rfl (by simp [maxLen])
      go_wp2_with (at_builtin; go_must (refine wpList_append_newI (w := wr) rfl _ _ 45 rfl 3 Tryd.underlying45 8 infoInt _ _ rfl hNl _ _ rfl (hR.kept (growB _)) (by simp) (by simp) ?_))
      intro v5 w2 hN _
      clear hNl hR
      obtain ⟨p, cap, ev, hp1, hp2, hcap, hmx, hcl, hfz, hst⟩ := hN.all (by simp)
      subst ev
      simp only [List.length_cons, List.length_nil, Nat.zero_add, Nat.reduceAdd] at hcap
      have ck := hcl 0 (by simp)
      have c8 := hcl 8 (by simp)
      have fk := hfz 0
      have HST : Hid _ := hst 0
      simp only [List.getD_cons_zero, List.getD_cons_succ] at ck c8
      clear hcl hfz hst
      go_wp2
      go_region
      go_wp2
      have hN1 : NewI .i64 3 wr (.slice (some ⟨p, 0, none⟩) 9 cap) [h % 2, a, b, c, d, e, f, g, h] (w2.setCell ⟨p, 0, none⟩ (.int .i64 (h % 2))).drew := (HST.out (h % 2)).drew
      generalize (w2.setCell ⟨p, 0, none⟩ (.int .i64 (h % 2))).drew = w3 at hN1
      clear HST ck c8 fk
      obtain ⟨p', cap', ev', _, _, _, _, hcl, hfz, hst⟩ := hN1.all (by simp)
      simp only [Value.slice.injEq, Option.some.injEq, Addr.mk.injEq, and_true, true_and] at ev'
      obtain ⟨rfl, _, rfl⟩ := ev'
      have ck := hcl 4 (by simp)
      have c8 := hcl 8 (by simp)
      have fk := hfz 4
      have HST : Hid _ := hst 4
      simp only [List.getD_cons_zero, List.getD_cons_succ] at ck c8
      clear hcl hfz hst
      go_wp2
      go_region
      go_wp2
      have hN2 : NewI .i64 3 wr (.slice (some ⟨p, 0, none⟩) 9 cap) [h % 2, a, b, c, (d + h) % 2, e, f, g, h] (w3.setCell ⟨p, 4, none⟩ (.int .i64 ((d + h) % 2))).drew := (HST.out ((d + h) % 2)).drew
      generalize (w3.setCell ⟨p, 4, none⟩ (.int .i64 ((d + h) % 2))).drew = w4 at hN2
      clear HST ck c8 fk
      obtain ⟨p', cap', ev', _, _, _, _, hcl, hfz, hst⟩ := hN2.all (by simp)
      simp only [Value.slice.injEq, Option.some.injEq, Addr.mk.injEq, and_true, true_and] at ev'
      obtain ⟨rfl, _, rfl⟩ := ev'
      have ck := hcl 5 (by simp)
      have c8 := hcl 8 (by simp)
      have fk := hfz 5
      have HST : Hid _ := hst 5
      simp only [List.getD_cons_zero, List.getD_cons_succ] at ck c8
      clear hcl hfz hst
      go_wp2
      go_region
      go_wp2
      have hN3 : NewI .i64 3 wr (.slice (some ⟨p, 0, none⟩) 9 cap) [h % 2, a, b, c, (d + h) % 2, (e + h) % 2, f, g, h] (w4.setCell ⟨p, 5, none⟩ (.int .i64 ((e + h) % 2))).drew := (HST.out ((e + h) % 2)).drew
      generalize (w4.setCell ⟨p, 5, none⟩ (.int .i64 ((e + h) % 2))).drew = w5 at hN3
      clear HST ck c8 fk
      obtain ⟨p', cap', ev', _, _, _, _, hcl, hfz, hst⟩ := hN3.all (by simp)
      simp only [Value.slice.injEq, Option.some.injEq, Addr.mk.injEq, and_true, true_and] at ev'
      obtain ⟨rfl, _, rfl⟩ := ev'
      have ck := hcl 6 (by simp)
      have c8 := hcl 8 (by simp)
      have fk := hfz 6
      have HST : Hid _ := hst 6
      simp only [List.getD_cons_zero, List.getD_cons_succ] at ck c8
      clear hcl hfz hst
      go_wp2
      go_region
      go_wp2
      have hN4 : NewI .i64 3 wr (.slice (some ⟨p, 0, none⟩) 9 cap) [h % 2, a, b, c, (d + h) % 2, (e + h) % 2, (f + h) % 2, g, h] (w5.setCell ⟨p, 6, none⟩ (.int .i64 ((f + h) % 2))).drew := (HST.out ((f + h) % 2)).drew
      generalize (w5.setCell ⟨p, 6, none⟩ (.int .i64 ((f + h) % 2))).drew = w6 at hN4
      clear HST ck c8 fk
      have hsl := slice0I (some ⟨p, 0, none⟩) cap
      go_wp2
      go_roundw
      case rel => exact ⟨m + 1, by omega, by go_num, by rw [HS.out]; exact hN4.rd.take (n := 8) (by omega), stepB hB hN4.2⟩
      case measure => simp [intOf]; omega
    · have hmn : m = n := by omega
      subst hmn
      have hge : ¬ (m : Int) < (t : Int) % 255 := by omega
      obtain ⟨b', off, cap, ev, hcap, hcl, _⟩ := hR.cellAt (i := 0) (by rw [he]; simp)
      have hl8 : (rcS m).length = 8 := by rw [he]; rfl
      rw [hl8] at ev hcap
      subst ev
      have hoff : off + 0 = off := rfl
      rw [hoff] at hcl
      generalize hq : (rcS m).getD 0 0 = q at hcl
      have HQ : Hid _ := hq
      clear he hni hR hl8 hoff hq
      go_wp2
      go_ret
      exact ⟨retI HQ.out.symm, hB⟩

theorem rc_bit (t : Nat) : (rcS (t % 255)).getD 0 0 = if rcB t then 1 else 0 := by
  obtain ⟨a, b, c, d, e, f, g, h, he, ha, _⟩ := rcS_ok (t % 255)
  unfold rcB
  rw [he]
  simp only [List.getD_cons_zero]
  have : a = 0 ∨ a = 1 := by omega
  rcases this with rfl | rfl <;> simp

set_option maxHeartbeats 4000000 in
theorem iota_out (va : Value) (f : Nat → Nat) (i : Int) (hi : i < 0 ∨ 23 < i) (w : World) (hr : RdI .u64 w va (stL f)) :
    Calls Tryd.prog 24 #[va, .int .i64 i] w fun e w' => ∃ v, e = .returned v ∧ NewI .u64 22 w v (stL f) w' := by
  have hcase : i < 0 ∨ (0 ≤ i ∧ 23 < i) := by omega
  clear hi
  rcases hcase with h1 | ⟨h1, h2⟩
  all_goals
    go_enter Tryd.func24, Tryd.ntmps24
    go_wp2_with fail
    refine (lanes_any _).mono ?_
    rintro e w1 ⟨v5, rfl, hN1⟩
    go_wp2_with (refine wpList_copy_newI (w := w) rfl _ _ 27 rfl 22 Tryd.underlying27 sizeU64 v5 _ rfl hN1 va _ rfl (hr.kept hN1.2) (by rw [stL_length, stL_length]) (stL_ne _) ?_)
    intro w2 hN2
    clear hN1
    go_wp2
    go_ret
    exact ⟨_, rfl, hN2⟩
end Go.Proofs.YtiffdfpkfcielabDoor
