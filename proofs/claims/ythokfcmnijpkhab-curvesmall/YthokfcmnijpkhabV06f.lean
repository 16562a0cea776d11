/- The ladder: a contract of package curve, sixth part. -/
import Derived.Test.YthokfcmnijpkhabV06e
namespace Go.Proofs.Ythokfcmnijpkhab
open Go.ChangeShapes Go.WideShapes Go.ChangeAt Go.RowKit
set_option linter.unusedSimpArgs false
set_option linter.unusedVariables false

theorem turnedL_any (t : Bool) (B : Int) (hB : B = dgI t) (P : Array Value) (a b c d : List Nat) (l : Ld) (h : Lw a b c d l) (hP : P = (prC a b c d).toArray) (w : World) :
    Calls Try.prog 17 #[.agg P, .int .i64 B] w fun e w' => ∃ a' b' c' d' : List Nat, e = .returned (.agg (prC a' b' c' d').toArray) ∧ Lw a' b' c' d' (if t = true then ldT l else l) ∧ Below w.heap.size w w' := by
  subst hB
  refine (turned_any (dgI t) P a b c d h.ea h.eb h.ec h.ed hP w).mono ?_
  rintro e w' ⟨rfl, hb⟩
  cases t
  · exact ⟨a, b, c, d, rfl, h, hb⟩
  · exact ⟨c, d, a, b, rfl, h.turn, hb⟩
theorem ldN_next (u : FF) (bit : Nat → Bool) (j : Nat) (t : Bool) (ht : bit (254 - j) = t) : (if t = true then ldT (ldS u (if t = true then ldT (ldN u bit j) else ldN u bit j)) else ldS u (if t = true then ldT (ldN u bit j) else ldN u bit j)) = ldN u bit (j + 1) := by
  show _ = ldB u (bit (254 - j)) _
  rw [ht]
  cases t <;> rfl
def o4 : List Nat := [1, 0, 0, 0]
theorem o4_el : El4 o4 := El4.mk4 (by decide) (by decide) (by decide) (by decide)
theorem Lw.first {u : List Nat} (hu : El4 u) (bit : Nat → Bool) : Lw o4 z4 u o4 (ldN (gv u) bit 0) :=
  ⟨o4_el, z4_el, hu, o4_el, (by show gv o4 = 1; decide +kernel), (by show gv z4 = 0; decide +kernel), rfl, (by show gv o4 = 1; decide +kernel)⟩
theorem build1 (w : World) : (Instr.build 41 #[(0, .agg #[.int .u64 1, .int .u64 0, .int .u64 0, .int .u64 0])]).run Try.prog w = .ok (.agg (frC o4 z4).toArray) w := by kernel_rfl
theorem build2 {u : List Nat} (hu : El4 u) (w : World) : (Instr.build 41 #[(0, .agg (cE u).toArray), (1, .agg #[.int .u64 1, .int .u64 0, .int .u64 0, .int .u64 0])]).run Try.prog w = .ok (.agg (frC u o4).toArray) w := by
  obtain ⟨p, q, r, s, rfl, -⟩ := hu.four
  kernel_rfl

set_option maxRecDepth 100000 in
set_option maxHeartbeats 4000000 in
theorem ladder_any (vn : Value) (n : List UInt8) (hn : n.length = 32) (U : Array Value) (u : List Nat) (hu : El4 u) (hU : U = ((nI u).map (Value.int .u64)).toArray) (w : World) (hr : Rd w vn n) :
    Calls Try.prog 10 #[vn, .agg U] w fun e w' => ∃ r : List Nat, e = .returned (elV r) ∧ El4 r ∧ gv r = ldX (gv u) (bitB n) ∧ Below w.heap.size w w' := by
  have HN : Hid (n.length = 32) := hn
  clear hn
  go_enter Try.func10, Try.ntmps10
  go_wp2_with (refine wpList_box_blk rfl 33 _ rfl (cE u) (by rw [show cE u = (nI u).map (Value.int .u64) from rfl, ← hU]; rfl) ?_)
  intro w1 ru b1 s1
  go_wp2_with (refine wpList_alloc_blk rfl 33 rfl (cE z4) (allocE _) ?_)
  intro w2 rz b2 s2
  replace ru := ru.kept b2
  have hbw := stepB b1 b2
  have n1 : w.heap.size < w1.heap.size := by have := s1.out; omega
  have n2 : w1.heap.size < w2.heap.size := by have := s2.out; omega
  clear b1 b2 s1 s2 hU
  go_wp2_with (first | refine wpList_load_part rfl 33 _ rfl rfl [] (cE u) [] ru (whole1 _) rfl Try.underlying33 rfl (infE hu) ?_ | refine wpList_buildB rfl 41 #[(0, .tmp 8)] rfl #[(0, .agg #[.int .u64 1, .int .u64 0, .int .u64 0, .int .u64 0])] (by go_simp; done) _ (build1 _) ?_ | refine wpList_buildB rfl 41 #[(0, .tmp 10), (1, .tmp 11)] rfl #[(0, .agg (cE u).toArray), (1, .agg #[.int .u64 1, .int .u64 0, .int .u64 0, .int .u64 0])] (by go_simp; done) _ (build2 hu _) ?_ | refine wpList_buildB rfl 43 #[(0, .tmp 9), (1, .tmp 12)] rfl #[(0, .agg (frC o4 z4).toArray), (1, .agg (frC u o4).toArray)] (by go_simp; done) _ (buildP o4_el z4_el hu o4_el _) ?_ | refine wpList_alloc_blk rfl 43 rfl (prC z4 z4 z4 z4) (allocP _) ?_)
  intro w3 rp b3 s3
  replace ru := ru.kept b3
  replace rz := rz.kept b3
  replace hbw := stepB hbw b3
  clear b3 s3
  go_wp2_with (refine wpList_store_part rfl 43 _ _ rfl rfl (prC o4 z4 u o4) rfl [] (prC z4 z4 z4 z4) [] (prC o4 z4 u o4) rp (whole1 _) (whole1 _) rfl (by rw [prC_len o4_el z4_el hu o4_el, prC_len z4_el z4_el z4_el z4_el]) (infP z4_el z4_el z4_el z4_el) (prC_all _ _ _ _) ?_)
  intro w4 rq hw4
  replace ru := ru.wrote hw4 (by omega)
  replace rz := rz.wrote hw4 (by omega)
  replace hbw := hw4.below _ _ (by omega) hbw
  clear rp hw4
  go_wp2_with fail
  go_loopw [14] (fun iv wx => ∃ (i : Nat) (a b c d : List Nat), i ≤ 255 ∧ iv = .int .i64 (i : Int) ∧ Hid (Lw a b c d (ldN (gv u) (bitB n) i)) ∧ BlkAt w2.heap.size 43 (prC a b c d) wx ∧ BlkAt w.heap.size 33 (cE u) wx ∧ BlkAt w1.heap.size 33 (cE z4) wx ∧ Below w.heap.size w wx) (fun iv _ => 255 - (intOf iv).toNat)
  case atStart => exact ⟨0, o4, z4, u, o4, by omega, rfl, Lw.first hu _, rq, ru, rz, hbw⟩
  case round =>
    obtain ⟨i, a, b, c, d, hi, rfl, HL, rp, ru', rz', hb⟩ := hrel
    clear rq ru rz hbw
    have hL := HL.out
    by_cases hlt : i < 255
    · have hd : decide ((i : Int) < 255) = true := decide_eq_true (by omega)
      have hiI : (i : Int) < 255 := by omega
      have hrr := hr.kept hb
      go_wp2_with fail
      refine (digitAt_any _ n HN.out (254 - i) _ (by omega) (by omega) _ hrr).mono ?_
      rintro e wd ⟨rfl, rfl⟩
      obtain ⟨t, ht⟩ : ∃ t, t = bitB n (254 - i) := ⟨_, rfl⟩
      rw [← ht]
      have HT : Hid _ := ldN_next (gv u) (bitB n) i t ht.symm
      clear ht hrr
      replace rp := rp.drew
      replace ru' := ru'.drew
      replace rz' := rz'.drew
      replace hb := hb.drew
      go_wp2_with fail
      refine wpE_begin 7 (by kernel_rfl) ?_
      refine wpE_take (i := 0) (oi := { dst := some 21, op := Op.load 43 (Operand.tmp 5), type := 43, pos := "curve.go:82", after := #[], guard := none }) (v := ?_) rfl (by decide) (by kernel_rfl) (by kernel_rfl) (by kernel_rfl) (by kernel_rfl) (by rfl) ?_ ?_
      rotate_left
      · intro W hW; refine Eq.trans (exec_load_part 43 _ (by rfl) (by rfl) [] (prC a b c d) [] rp hW (whole1 _) rfl Try.underlying43 rfl (infP hL.ea hL.eb hL.ec hL.ed)) ?_; with_reducible rfl
      try simp only [Act.put, List.setIfInBounds_toArray, List.set_cons_zero, List.set_cons_succ]
      refine wpE_take (i := 1) (oi := { dst := some 22, op := Op.move (Operand.tmp 7), type := 3, pos := "curve.go:82", after := #[], guard := none }) (v := ?_) rfl (by decide) (by kernel_rfl) (by kernel_rfl) (by kernel_rfl) (by kernel_rfl) (by rfl) ?_ ?_
      rotate_left
      · intro W hW; first | (go_simp; done) | (go_simp; with_reducible rfl)
      try simp only [Act.put, List.setIfInBounds_toArray, List.set_cons_zero, List.set_cons_succ]
      refine wpE_take (i := 3) (oi := { dst := some 24, op := Op.load 33 (Operand.tmp 3), type := 33, pos := "curve.go:82", after := #[], guard := none }) (v := ?_) rfl (by decide) (by kernel_rfl) (by kernel_rfl) (by kernel_rfl) (by kernel_rfl) (by rfl) ?_ ?_
      rotate_left
      · intro W hW; refine Eq.trans (exec_load_part 33 _ (by rfl) (by rfl) [] (cE u) [] ru' hW (whole1 _) rfl Try.underlying33 rfl (infE hu)) ?_; with_reducible rfl
      try simp only [Act.put, List.setIfInBounds_toArray, List.set_cons_zero, List.set_cons_succ]
      refine wpE_take (i := 5) (oi := { dst := some 26, op := Op.move (Operand.tmp 7), type := 3, pos := "curve.go:82", after := #[], guard := none }) (v := ?_) rfl (by decide) (by kernel_rfl) (by kernel_rfl) (by kernel_rfl) (by kernel_rfl) (by rfl) ?_ ?_
      rotate_left
      · intro W hW; first | (go_simp; done) | (go_simp; with_reducible rfl)
      try simp only [Act.put, List.setIfInBounds_toArray, List.set_cons_zero, List.set_cons_succ]
      refine wpE_do (i := 2) (o := { dst := some 23, op := Op.call { callee := Callee.value (Operand.func 17), args := #[Operand.tmp 21, Operand.tmp 22], argTypes := #[43, 3] }, type := 43, pos := "curve.go:82", after := #[{ on := 0, ground := Ground.data }, { on := 1, ground := Ground.data }], guard := none }) (by kernel_rfl) rfl (by rfl) fun K hK => ?_
      go_simp
      refine (turnedL_any t _ rfl _ a b c d _ hL rfl _).mono ?_
      rintro e w5 ⟨a5, b5, c5, d5, rfl, h5, bn⟩
      refine hK.out _ _ bn ?_
      clear hK K
      replace rp := rp.kept bn
      replace ru' := ru'.kept bn
      replace rz' := rz'.kept bn
      replace hb := stepB hb bn
      clear bn
      try simp only [Act.put, List.setIfInBounds_toArray, List.set_cons_zero, List.set_cons_succ]
      refine wpE_do (i := 4) (o := { dst := some 25, op := Op.call { callee := Callee.value (Operand.func 18), args := #[Operand.tmp 23, Operand.tmp 24], argTypes := #[43, 33] }, type := 43, pos := "curve.go:82", after := #[{ on := 2, ground := Ground.data }, { on := 3, ground := Ground.data }, { on := 2, ground := Ground.chain }], guard := none }) (by kernel_rfl) rfl (by rfl) fun K hK => ?_
      go_simp
      refine (next_any _ a5 b5 c5 d5 _ h5 rfl _ u hu rfl _).mono ?_
      rintro e w6 ⟨a6, b6, c6, d6, rfl, h6, bn⟩
      refine hK.out _ _ bn ?_
      clear hK K
      replace rp := rp.kept bn
      replace ru' := ru'.kept bn
      replace rz' := rz'.kept bn
      replace hb := stepB hb bn
      clear bn
      try simp only [Act.put, List.setIfInBounds_toArray, List.set_cons_zero, List.set_cons_succ]
      refine wpE_do (i := 6) (o := { dst := some 27, op := Op.call { callee := Callee.value (Operand.func 17), args := #[Operand.tmp 25, Operand.tmp 26], argTypes := #[43, 3] }, type := 43, pos := "curve.go:82", after := #[{ on := 4, ground := Ground.data }, { on := 5, ground := Ground.data }, { on := 4, ground := Ground.chain }], guard := none }) (by kernel_rfl) rfl (by rfl) fun K hK => ?_
      go_simp
      refine (turnedL_any t _ rfl _ a6 b6 c6 d6 _ h6 rfl _).mono ?_
      rintro e w7 ⟨a7, b7, c7, d7, rfl, h7, bn⟩
      refine hK.out _ _ bn ?_
      clear hK K
      replace rp := rp.kept bn
      replace ru' := ru'.kept bn
      replace rz' := rz'.kept bn
      replace hb := stepB hb bn
      clear bn
      try simp only [Act.put, List.setIfInBounds_toArray, List.set_cons_zero, List.set_cons_succ]
      refine wpE_last (o := { dst := none, op := Op.store 43 (Operand.tmp 5) (Operand.tmp 27), type := 0, pos := "curve.go:82", after := #[{ on := 6, ground := Ground.data }, { on := 6, ground := Ground.chain }, { on := 0, ground := Ground.phase }, { on := 1, ground := Ground.phase }, { on := 2, ground := Ground.phase }, { on := 3, ground := Ground.phase }, { on := 4, ground := Ground.phase }, { on := 5, ground := Ground.phase }, { on := 6, ground := Ground.phase }], guard := none }) (by kernel_rfl) (by kernel_rfl) rfl (by rfl) fun K hK => ?_
      refine wp_store_part 43 _ _ rfl rfl (prC a7 b7 c7 d7) rfl [] (prC a b c d) [] (prC a7 b7 c7 d7) rp (whole1 _) (whole1 _) rfl (by rw [prC_len h7.ea h7.eb h7.ec h7.ed, prC_len hL.ea hL.eb hL.ec hL.ed]) (infP hL.ea hL.eb hL.ec hL.ed) (prC_all _ _ _ _) ?_
      intro w8 r8 hw8
      refine hK.out _ _ ?_
      clear hK K
      try simp only [Act.put, List.setIfInBounds_toArray, List.set_cons_zero, List.set_cons_succ]
      rw [HT.out] at h7
      have HL7 : Hid _ := h7
      replace ru' := ru'.wrote hw8 (by omega)
      replace rz' := rz'.wrote hw8 (by omega)
      replace hb := hw8.below _ _ (by omega) hb
      clear h5 h6 h7 rp hw8 hL HL HT
      go_wp2
      go_roundw
      case rel => exact ⟨i + 1, a7, b7, c7, d7, by omega, by go_num, HL7, r8, ru', rz', hb⟩
      case measure => simp [intOf] <;> omega
    · have hie : i = 255 := by omega
      have hd : decide ((i : Int) < 255) = false := decide_eq_false (by omega)
      have hiI : (255 : Int) ≤ (i : Int) := by omega
      rw [hie] at hL
      clear hie HL
      go_wp2_with (refine wpList_load_part rfl 41 _ rfl rfl [] (frC a b) (frC c d) rp (first1 _ _ _ _) rfl Try.underlying41 rfl (infF hL.ea hL.eb) ?_)
      refine (number_any _ a b hL.ea hL.eb rfl _).mono ?_
      rintro e w9 ⟨r, rfl, hr9, v9, b9⟩
      rw [hL.x, hL.z] at v9
      replace rz' := rz'.kept b9
      replace hb := stepB hb b9
      clear b9 rp ru'
      go_wp2_with (refine wpList_store_part rfl 33 _ _ rfl rfl (cE r) rfl [] (cE z4) [] (cE r) rz' (whole1 _) (whole1 _) rfl (by rw [cE_len hr9, cE_len z4_el]) (infE z4_el) (cE_all _) ?_)
      intro w10 r10 hw10
      go_wp2_with fail
      refine bodyPost_blk (p := 4) (ty := 33) rfl rfl rfl r10 Try.underlying33 rfl (infE hr9) ?_
      exact ⟨r, rfl, hr9, v9, hw10.below _ _ (by omega) hb⟩
end Go.Proofs.Ythokfcmnijpkhab
