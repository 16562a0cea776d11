/- What bytes of a number, and the number of bytes, are: contracts of package field, seventh part. -/
import Derived.Test.YthokfcmnijpkhabF05e
import Derived.Test.YthokfcmnijpkhabWords
import Derived.Test.YthokfcmnijpkhabArrC
namespace Go.Proofs.Ythokfcmnijpkhab
open Go.ChangeShapes Go.WideShapes Go.ChangeAt Go.RowKit
set_option linter.unusedSimpArgs false
set_option linter.unusedVariables false

set_option maxRecDepth 100000 in
set_option maxHeartbeats 2000000 in
theorem fencode_any (A : Array Value) (a : List Nat) (ha : El4 a) (hA : A = ((nI a).map (Value.int .u64)).toArray) (w : World) :
    Calls Try.prog 9 #[.agg A] w fun e w' => ∃ r, e = .returned r ∧ New 5 w r (enL (wv a)) w' := by
  obtain ⟨ti, hti, hz0, hz1, hz2⟩ := info_parts info5
  go_enter Try.func9, Try.ntmps9
  go_wp2_with (refine wpList_box_row (k := .u64) rfl 33 _ rfl (nI a) (by rw [← hA]; rfl) ha.ne (elMax ha) ?_)
  intro w1 r1 b1 s1
  rw [ha.len] at r1
  clear s1
  go_wp2_with (refine wpList_load_row rfl 33 _ rfl rfl r1 _ Try.underlying33 rfl (elInfo ha) ?_)
  refine (rest_any _ a ha rfl _).mono ?_
  rintro e w2 ⟨x, rfl, hx, he, b2⟩
  have HE : Hid _ := he
  replace r1 := r1.kept b2
  have hbw := stepB b1 b2
  clear he b2 b1
  go_wp2_with (refine wpList_store_row rfl 33 _ _ rfl (nI x) rfl rfl r1 (by rw [ha.len, hx.len]) (elInfo ha) ?_)
  intro w3 r3 hw3
  replace hbw := hw3.below _ _ (Nat.le_refl _) hbw
  have HX : Hid (El4 x) := hx
  clear r1 hw3 hA ha hx
  go_wp2_with (at_make; go_must (refine wpList_make_own _ rfl _ _ 24 rfl w3.heap.size 5 ti _ 1 Try.underlying24 hti hz0 hz1 _ _ _ 32 rfl rfl rfl (by rw [hz2]; omega) (by unfold maxLen; omega) (Nat.le_refl _) ?_))
  intro w4 hown hgr
  have hN4 : New 5 w3 _ [] w4 := ⟨hown, (Below.refl _ _).grown hgr (Nat.le_refl _) (by simp)⟩
  clear hown hgr
  go_wp2
  go_loopw [3, 8] (fun v iv wx => ∃ i : Nat, i ≤ 4 ∧ iv = .int .i64 (i : Int) ∧ New 5 w3 v ((List.range (8 * i)).map (stB (wv x))) wx) (fun _ iv _ => 4 - (intOf iv).toNat)
  case atStart => exact ⟨0, by omega, rfl, hN4⟩
  case round =>
    obtain ⟨i, hi, rfl, hN⟩ := hrel
    clear hN4
    by_cases hlt : i < 4
    · have hd : decide ((i : Int) < 4) = true := decide_eq_true (by omega)
      have hiI : (i : Int) < 4 := by omega
      have hc := (r3.kept hN.2).cell (j := i) (by rw [HX.out.len]; exact hlt)
      rw [nI_get] at hc
      have HN : Hid _ := bytes_next x i HX.out hlt
      obtain ⟨q, hq⟩ : ∃ q : Nat, q = x.getD i 0 := ⟨_, rfl⟩
      rw [← hq] at hc HN
      obtain ⟨bs, hbs⟩ : ∃ bs : List UInt8, bs = (List.range 8).map (stB q) := ⟨_, rfl⟩
      rw [← hbs] at HN
      have HBS : Hid _ := hbs
      have HL : Hid (((List.range (8 * i)).map (stB (wv x))).length + bs.length ≤ 140737488355328) := by
        show _ ≤ _
        rw [hbs]
        simp only [List.length_map, List.length_range]
        omega
      clear hq hbs
      go_wp2_with fail
      refine (store_k q 8 8 (by omega) (.inr (.inl ⟨by omega, by omega, rfl⟩)) _).mono ?_
      rintro e w5 ⟨v5, rfl, hN5⟩
      have hR5 := hN5.rd
      rw [← HBS.out] at hR5
      replace hN := hN.kept hN5.2
      clear hN5
      go_wp2_with (at_builtin; go_must (refine wpList_append_new (w := w3) rfl _ _ 24 rfl 5 Try.underlying24 info5 _ _ rfl hN _ _ rfl hR5 HL.out ?_))
      intro v6 w6 hN6 _
      rw [HN.out] at hN6
      clear hN hR5 hc
      go_wp2
      go_roundw
      case rel => exact ⟨i + 1, by omega, by go_num, hN6⟩
      case measure => simp [intOf] <;> omega
    · have hie : i = 4 := by omega
      have hd : decide ((i : Int) < 4) = false := decide_eq_false (by omega)
      have hiI : (4 : Int) ≤ (i : Int) := by omega
      rw [hie, show 8 * 4 = 32 from rfl, enL_of HE.out] at hN
      clear hie
      go_wp2
      go_ret
      exact ⟨_, rfl, hN.from hbw⟩

theorem alloc32 (w : World) : (Instr.alloc 22 true (.tuple #[])).run Try.prog w = .ok (.pointer (some ⟨w.heap.size, 0, none⟩)) (w.alloc (.cells ((byI (List.replicate 32 0)).map (Value.int .u8)).toArray 22)) := by kernel_rfl
def zs32 : List UInt8 := List.replicate 32 0
theorem zs32_length : zs32.length = 32 := List.length_replicate
theorem zs32_ne : zs32 ≠ [] := by unfold zs32; simp

theorem dec_fit (b : List UInt8) : leN (b.take 32 ++ (List.replicate 32 (0 : UInt8)).drop (b.take 32).length) = leN (b.take 32) := by
  rw [leN_append, List.drop_replicate, leN_zeros, Nat.mul_zero, Nat.add_zero]
theorem fit_length (b : List UInt8) : (b.take 32 ++ (List.replicate 32 (0 : UInt8)).drop (b.take 32).length).length = 32 := by
  simp only [List.length_append, List.length_take, List.length_drop, List.length_replicate]
  omega
theorem dec_top {a : List Nat} (ha : El4 a) (b : List UInt8) (h : wv a = leN (b.take 32)) : wv (a.set 3 (a.getD 3 0 % 9223372036854775808)) = decN b := by
  rw [(rest_split ha).1, h]
  rfl

set_option maxRecDepth 100000 in
set_option maxHeartbeats 2000000 in
theorem fdecode_any (vb : Value) (b : List UInt8) (w : World) (hr : Rd w vb b) :
    Calls Try.prog 11 #[vb] w fun e w' => ∃ r : List Nat, e = .returned (elV r) ∧ El4 r ∧ wv r = decN b ∧ Below w.heap.size w w' := by
  obtain ⟨ab, cb, rfl, -, hmb, -, -⟩ := id hr
  unfold maxLen at hmb
  obtain ⟨t3, ht3⟩ : ∃ f : List UInt8, f = b.take zs32.length := ⟨_, rfl⟩
  obtain ⟨full, hfull⟩ : ∃ f : List UInt8, f = t3 ++ zs32.drop t3.length := ⟨_, rfl⟩
  have HF : Hid (full.length = 32) := by
    show _ = _
    rw [hfull, ht3, zs32_length]
    exact fit_length b
  have HD : Hid (leN full = leN (b.take 32)) := by
    show _ = _
    rw [hfull, ht3, zs32_length]
    exact dec_fit b
  have HT3 : Hid _ := ht3
  have HFU : Hid _ := hfull
  clear ht3 hfull
  go_enter Try.func11, Try.ntmps11
  go_wp2_with (refine wpList_alloc_row (k := .u64) rfl 33 rfl (nI z4) (alloc_el _) z4_el.ne (elMax z4_el) ?_)
  intro w1 r1 b1 s1
  rw [z4_el.len] at r1
  go_wp2_with (refine wpList_alloc_row (k := .u8) rfl 22 rfl (byI zs32) (alloc32 _) (byI_ne zs32_ne) (by rw [byI_length, zs32_length]; decide) ?_)
  intro w2 r2 b2 s2
  rw [byI_length, zs32_length] at r2
  have hr2 := (hr.kept b1).kept b2
  have n1 : w.heap.size < w1.heap.size := by have := s1.out; omega
  clear hr s1 s2
  go_wp2_with (refine wpList_copy_fit (w := w1) rfl _ _ 24 rfl 5 Try.underlying24 (by kernel_rfl) zs32 rfl zs32_length.symm r2 _ b rfl hr2 t3 HT3.out zs32_ne b2 (Nat.le_refl _) ?_)
  intro w3 r3 b3
  rw [← HFU.out] at r3
  replace r1 := r1.kept b3
  have hbw := stepB b1 b3
  clear hr2 r2 b2 HFU HT3 b1 b3
  go_wp2_with (refine wpList_alloc_row (k := .u64) rfl 33 rfl (nI z4) (alloc_el _) z4_el.ne (elMax z4_el) ?_)
  intro w4 r4 b4 s4
  rw [z4_el.len] at r4
  have n3 := r3.lt
  replace r1 := r1.kept b4
  replace r3 := r3.kept b4
  replace hbw := stepB hbw b4
  clear b4 s4
  go_wp2
  go_loopw [9] (fun iv wx => ∃ (i : Nat) (cur : List Nat), i ≤ 4 ∧ iv = .int .i64 (i : Int) ∧ Hid (El4 cur) ∧ Hid (wv cur = leN (full.take (8 * i))) ∧ Hid (∀ j, i ≤ j → cur.getD j 0 = 0) ∧ RowAt .u64 33 w.heap.size 4 (nI z4) wx ∧ RowAt .u8 22 w1.heap.size 32 (byI full) wx ∧ RowAt .u64 33 w3.heap.size 4 (nI cur) wx ∧ Below w.heap.size w wx) (fun iv _ => 4 - (intOf iv).toNat)
  case atStart => exact ⟨0, z4, by omega, rfl, z4_el, (by show _ = _; rw [z4_wv]; rfl), (fun j _ => z4_get j), r1, r3, r4, hbw⟩
  case round =>
    obtain ⟨i, cur, hi, rfl, HC, HV, HZ, rz, rf, rc, hbx⟩ := hrel
    clear r1 r3 r4 hbw
    by_cases hlt : i < 4
    · have hd : decide ((i : Int) < 4) = true := decide_eq_true (by omega)
      have hiI : (i : Int) < 4 := by omega
      have hRf := rf.rdB
      rw [HF.out] at hRf
      have hsub := hRf.sub (8 * i) 32 (by omega) (by omega)
      have hfc := rc.free i
      have hcc := rc.cell (j := i) (by rw [HC.out.len]; exact hlt)
      obtain ⟨m, hm⟩ : ∃ m : Nat, m = 8 * i := ⟨_, rfl⟩
      have hld := load_any _ _ _ hsub
      obtain ⟨z, hz⟩ : ∃ z : Nat, z = leN (((full.drop (8 * i)).take (32 - 8 * i)).take 8) := ⟨_, rfl⟩
      have HS : Hid (El4 (cur.set i z) ∧ wv (cur.set i z) = leN (full.take (8 * (i + 1))) ∧ ∀ j, i + 1 ≤ j → (cur.set i z).getD j 0 = 0) := by
        have e : ((full.drop (8 * i)).take (32 - 8 * i)).take 8 = (full.drop (8 * i)).take 8 := by
          rw [List.take_take, Nat.min_eq_left (by omega)]
        rw [hz, e]
        refine ⟨HC.out.set i (leN_take_lt _ 8 (by omega)), dec_step full cur i (by rw [HC.out.1]; exact hlt) HF.out hlt (HZ.out i (Nat.le_refl _)) HV.out, fun j hj => ?_⟩
        have := HZ.out j (by omega)
        rw [List.getD_eq_getElem?_getD, List.getElem?_set_ne (by omega), ← List.getD_eq_getElem?_getD]
        exact this
      rw [← hz, ← hm, Nat.zero_add] at hld
      have rc2 := rc.set i (z : Int)
      rw [nI_set] at rc2
      have rz2 := rz.other (p := ⟨w3.heap.size, i, none⟩) (by show w3.heap.size ≠ _; omega) (.int .u64 (z : Int))
      have rf2 := rf.other (p := ⟨w3.heap.size, i, none⟩) (by show w3.heap.size ≠ _; omega) (.int .u64 (z : Int))
      have hb2 := (Wrote.set w3.heap.size i wr (.int .u64 (z : Int))).below _ _ (by omega) hbx
      have x1 : IntKind.i64.wrap (8 * (i : Int)) = (m : Int) := by rw [show 8 * (i : Int) = (m : Int) by omega]; exact IntWalk.i64_in _ (by omega)
      have hm32 : (m : Int) < 32 := by omega
      have hm33 : (m : Int) ≤ 32 := by omega
      have hm32' : m < 32 := by omega
      have hmn : m ≠ 32 := by omega
      have hmn' : ¬ (32 : Nat) = m := by omega
      have hmi : ¬ (32 : Int) = (m : Int) := by omega
      have HLD : Hid (Calls Try.prog 20 #[.slice (some ⟨w1.heap.size, m, none⟩) (32 - m) (32 - m)] wr fun e w' => e = .returned (.int .u64 (z : Int)) ∧ w' = wr) := hld
      clear hm hRf rz rf rc hbx HV HZ hsub hz hld
      go_wp2_with fail
      refine Calls.mono HLD.out ?_
      rintro e w5 ⟨rfl, rfl⟩
      go_wp2
      go_roundw
      case rel => exact ⟨i + 1, cur.set i z, by omega, by go_num, HS.out.1, HS.out.2.1, HS.out.2.2, rz2, rf2, rc2, hb2⟩
      case measure => simp [intOf] <;> omega
    · have hie : i = 4 := by omega
      have hd : decide ((i : Int) < 4) = false := decide_eq_false (by omega)
      have hiI : (4 : Int) ≤ (i : Int) := by omega
      have hV : wv cur = leN (b.take 32) := by
        rw [← HD.out, HV.out, hie, List.take_of_length_le (by rw [HF.out]; exact Nat.le_refl _)]
      have HT : Hid _ := dec_top HC.out b hV
      have hc3 := rc.cell (j := 3) (by rw [HC.out.len]; decide)
      have hf3 := rc.free 3
      rw [nI_get] at hc3
      have h3 := HC.out.get 3
      have m1 := mask63 (cur.getD 3 0) h3
      obtain ⟨z, hz⟩ : ∃ z : Nat, z = cur.getD 3 0 % 9223372036854775808 := ⟨_, rfl⟩
      rw [← hz] at m1 HT
      have hzl : z < 18446744073709551616 := by omega
      have hE : El4 (cur.set 3 z) := HC.out.set 3 hzl
      have rc2 := rc.set 3 (z : Int)
      rw [nI_set] at rc2
      have rz2 := rz.other (p := ⟨w3.heap.size, 3, none⟩) (by show w3.heap.size ≠ _; omega) (.int .u64 (z : Int))
      have hb2 := (Wrote.set w3.heap.size 3 wr (.int .u64 (z : Int))).below _ _ (by omega) hbx
      generalize cur.getD 3 0 = q at hc3 m1 h3 hz
      clear hie hz hV rz rf rc hbx HV HZ h3
      go_wp2_with (first | refine wpList_load_row rfl 33 _ rfl rfl rc2 _ Try.underlying33 rfl (elInfo hE) ?_ | (refine wpList_store_row rfl 33 _ _ rfl (nI (cur.set 3 z)) rfl rfl rz2 (by rw [z4_el.len, hE.len]) (elInfo z4_el) ?_; intro w6 r6 hw6))
      refine bodyPost_row (p := 2) (ty := 33) rfl rfl rfl r6 Try.underlying33 rfl (elInfo hE) ?_
      exact ⟨_, rfl, hE, HT.out, hw6.below _ _ (by omega) hb2⟩
end Go.Proofs.Ythokfcmnijpkhab
