/- Which pattern a text tells: contracts of the reference of layer 15, fifteenth part. -/
import Derived.Test.YtpoibhhijidobabGreatDoorQa
import Derived.Test.YtpoibhhijidobabGreatDoorBase
import Derived.Deep.DeepCutAuto
import Derived.Deep.CutRange
namespace Go.Proofs.YtpoibhhijidobabGreatDoor
open Go.ChangeShapes Go.WideShapes Go.ChangeAt Go.RowKit
set_option linter.unusedSimpArgs false
set_option linter.unusedVariables false

set_option maxRecDepth 100000 in
set_option maxHeartbeats 16000000 in
theorem parse15_any (s : List UInt8) (hs : s.length ≤ 1000000) (w : World) :
    Calls Tryz.prog 15 #[.string ⟨s.toArray⟩] w fun e w' => ∃ vi vl, e = .returned (.tuple #[.agg (ptC (psA s).1 vi vl).toArray, .int .i64 (psA s).2]) ∧ PtR w' (psA s).1 vi vl ∧ Below w.heap.size w w' := by
  obtain ⟨ti, hti, hz0, hz1, hz2⟩ := info_parts infoStr
  obtain ⟨L, hL⟩ : ∃ L : Nat, L = s.length := ⟨_, rfl⟩
  have HL : Hid (L = s.length) := hL
  have hsz : ByteArray.size ⟨s.toArray⟩ = L := by rw [hL]; rfl
  have hLb : L ≤ 1000000 := by omega
  generalize hS : (⟨s.toArray⟩ : ByteArray) = S at hsz
  have HSb : Hid (S = ⟨s.toArray⟩) := hS.symm
  clear hL hs hS
  go_enter Tryz.func15, Tryz.ntmps15
  go_wp2_with (refine wpList_alloc_blk rfl 36 rfl (ptC zeP (.slice none 0 0) (.slice none 0 0)) (allocPt _) ?_)
  intro w1 rz b1 s1
  go_wp2_with (refine wpList_alloc_blk rfl 36 rfl (ptC zeP (.slice none 0 0) (.slice none 0 0)) (allocPt _) ?_)
  intro w2 rp b2 s2
  replace rz := rz.kept b2
  have hbw := stepB b1 b2
  have n1 : w.heap.size < w1.heap.size := by have := s1.out; omega
  clear b1 b2 s1 s2
  by_cases hbig : 4096 < L
  · have hd : decide ((4096 : Int) < (L : Int)) = true := decide_eq_true (by omega)
    have HA : Hid (psA s = (zeP, 1)) := by show _ = _; unfold psA; rw [if_pos (by rw [← HL.out]; exact hbig)]
    clear hbig
    go_wp2_with (first | refine wpList_load_part rfl 36 _ rfl rfl [] (ptC zeP (.slice none 0 0) (.slice none 0 0)) [] rp (whole15 _) rfl Tryz.underlying36 rfl (ptInfo _ _ _) ?_ | (refine wpList_store_part rfl 36 _ _ rfl rfl (ptC zeP (.slice none 0 0) (.slice none 0 0)) rfl [] (ptC zeP (.slice none 0 0) (.slice none 0 0)) [] (ptC zeP (.slice none 0 0) (.slice none 0 0)) rz (whole15 _) (whole15 _) rfl rfl (ptInfo _ _ _) (ptC_all _ _ _ _ _ _ _) ?_; intro w7 r7 hw7))
    refine bodyPost_blk2 rfl rfl rfl rfl r7 Tryz.underlying36 rfl (ptInfo _ _ _) ?_
    exact refuse15 HA.out (hw7.below _ _ (Nat.le_refl _) hbw)
  · have hd : decide ((4096 : Int) < (L : Int)) = false := decide_eq_false (by omega)
    have HLs : Hid (s.length ≤ 4096) := by show _ ≤ _; rw [← HL.out]; omega
    go_wp2_with fail
    rw [HSb.out]
    refine (cut15_any s (by have := HLs.out; omega) 10 _ rfl _).mono ?_
    rintro e w3 ⟨va, rfl, hO⟩
    replace rz := rz.kept hO.below
    replace rp := rp.kept hO.below
    replace hO := hO.from hbw
    have HPs : Hid (∀ x ∈ splL 10 s, x.length ≤ 4096) := fun x hx => Nat.le_trans (splL_len 10 s x hx) HLs.out
    have HPn : Hid ((splL 10 s).length ≤ 4097) := by show _ ≤ _; have := splL_count 10 s; have := HLs.out; omega
    have HEnd : Hid _ := lnT_end s
    obtain ⟨ps, hps⟩ : ∃ ps, ps = splL 10 s := ⟨_, rfl⟩
    rw [← hps] at hO HPs HPn HEnd
    have hrc : RdC w3 va (stC ps) := hO.rdC rfl
    obtain ⟨aa, ca, ev, ha2, ha3, -, -⟩ := id hrc
    rw [stC_length] at ev ha2
    unfold maxLen at ha3
    subst ev
    obtain ⟨n, hn⟩ : ∃ n : Nat, n = ps.length := ⟨_, rfl⟩
    have HN : Hid (n = ps.length) := hn
    rw [← hn] at hO ha2 ⊢
    have hn4 : n ≤ 4097 := by rw [hn]; exact HPn.out
    clear hrc hn hps hbig
    go_wp2
    go_loopw [5, 7] (fun lv iv wx => ∃ (i : Nat) (ls : List (List UInt8)), i ≤ n ∧ iv = .int .i64 (i : Int) ∧ ls.length ≤ i ∧ Hid (ls = lnT ps i) ∧ OwnG w [Rw.st lv ls, Rw.st (.slice aa n ca) ps] wx ∧ BlkAt w.heap.size 36 (ptC zeP (.slice none 0 0) (.slice none 0 0)) wx ∧ BlkAt w1.heap.size 36 (ptC zeP (.slice none 0 0) (.slice none 0 0)) wx) (fun _ iv _ => n - (intOf iv).toNat)
    case atStart => exact ⟨0, [], by omega, rfl, by simp, (by show _ = _; rfl), hO.nil 9 1, rz, rp⟩
    case round =>
      obtain ⟨i, ls, hi, rfl, hll, HI, hOx, rzx, rpx⟩ := hrel
      clear hO rz rp
      by_cases hlt : i < n
      · have hd : decide ((i : Int) < (n : Int)) = true := decide_eq_true (by omega)
        have hiI : (i : Int) < (n : Int) := by omega
        have hlk : i < ps.length := by rw [← HN.out]; exact hlt
        have hrc : RdC wr (.slice aa n ca) (stC ps) := hOx.swap.rdC rfl
        obtain ⟨b, off, cap, ev, -, -, hc⟩ := hrc.cellAt (i := i) (by rw [stC_length]; exact hlk)
        rw [stC_at ps i hlk] at hc
        simp only [Value.slice.injEq] at ev
        obtain ⟨rfl, -, -⟩ := ev
        have HX : Hid (ps[i].length ≤ 4096) := HPs.out _ (List.getElem_mem hlk)
        have HI2 : Hid (∀ l2, l2 = (if tmT ps[i] = [] then ls else ls ++ [tmT ps[i]]) → l2 = lnT ps (i + 1)) := by
          intro l2 h2
          rw [h2, lnT_next _ _ hlk, HI.out]
        generalize ps[i] = x at hc HX HI2
        obtain ⟨PB, hPB⟩ : ∃ B : ByteArray, B = ⟨x.toArray⟩ := ⟨_, rfl⟩
        rw [← hPB] at hc
        have HPB : Hid _ := hPB
        clear hPB hrc HI
        go_wp2_with fail
        rw [HPB.out]
        refine (trim15_any x (by have := HX.out; omega) _).mono ?_
        rintro e w4 ⟨rfl, rfl⟩
        obtain ⟨t, ht⟩ : ∃ t : List UInt8, t = tmT x := ⟨_, rfl⟩
        rw [← ht] at HI2 ⊢
        obtain ⟨TB, hTB⟩ : ∃ B : ByteArray, B = ⟨t.toArray⟩ := ⟨_, rfl⟩
        rw [← hTB]
        have HTB : Hid _ := hTB
        have hTl : TB.toList = t := by rw [hTB]; exact str_toList _
        clear hTB ht
        by_cases hte : t = []
        · have hTn : TB.toList = [] := by rw [hTl, hte]
          have HI3 : Hid (ls = lnT ps (i + 1)) := HI2.out _ (by rw [if_pos hte])
          clear hTl hte HI2
          go_wp2
          go_roundw
          case rel => exact ⟨i + 1, ls, by omega, by go_num, by omega, HI3, hOx, rzx, rpx⟩
          case measure => simp [intOf] <;> omega
        · have hTn : (TB.toList == []) = false := by rw [hTl]; simpa using hte
          have HI3 : Hid (ls ++ [t] = lnT ps (i + 1)) := HI2.out _ (by rw [if_neg hte])
          have HQ : Hid (stC ls ++ [Value.string TB] = stC (ls ++ [t])) := by show _ = _; rw [HTB.out]; exact stC_next ls t
          clear hTl hte HI2
          go_wp2_with (at_builtin; go_must (refine wpList_append_E rfl _ _ 54 rfl 9 ti _ 1 16 Tryz.underlying54 hti hz0 hz1 hz2 rfl (by decide) _ ls.length (stC ls) rfl (hOx.kept (growB _)) ⟨w4.heap.size, 0, none⟩ 1 1 [.string TB] rfl rfl (news1 _ rfl) (by intro u hu; simp at hu; subst hu; rfl) (by unfold maxLen; omega) (by omega) ?_))
          intro v6 w6 hO6 hC6
          have hrow := hOx.rows _ (List.mem_cons_self ..)
          have rz6 := (rzx.kept (growB (.cells #[.string TB] 9))).chg hC6 (fun e => row_not_blk hrow rzx (show (9 : TypeId) ≠ 36 by decide) e.symm)
          have rp6 := (rpx.kept (growB (.cells #[.string TB] 9))).chg hC6 (fun e => row_not_blk hrow rpx (show (9 : TypeId) ≠ 36 by decide) e.symm)
          rw [HQ.out] at hO6
          have hO7 : OwnG w [Rw.st v6 (ls ++ [t]), Rw.st (.slice (some ⟨b, off, none⟩) n ca) ps] w6 := by
            have e : ls.length + 1 = (ls ++ [t]).length := by simp
            rw [e] at hO6
            exact hO6
          clear hOx hO6 rzx rpx hrow
          go_wp2
          go_roundw
          case rel => exact ⟨i + 1, ls ++ [t], by omega, by go_num, by simp; omega, HI3, hO7, rz6, rp6⟩
          case measure => simp [intOf] <;> omega
      · have hd : decide ((i : Int) < (n : Int)) = false := decide_eq_false (by omega)
        have hiI : (n : Int) ≤ (i : Int) := by omega
        have HI3 : Hid (ls = lnS s) := by
          show _ = _
          rw [HI.out, show i = ps.length by have := HN.out; omega]
          exact HEnd.out
        have hrl : RdC wr u5 (stC ls) := hOx.rdC rfl
        obtain ⟨al, cl, ev, hl2, hl3, -, -⟩ := id hrl
        rw [stC_length] at ev hl2
        unfold maxLen at hl3
        subst ev
        have HMm : Hid (∀ x ∈ ls, x ≠ [] ∧ x.length ≤ 4096) := by
          intro x hx
          rw [HI3.out] at hx
          exact ⟨(lnL_mem hx).1, Nat.le_trans (lnL_mem hx).2 HLs.out⟩
        obtain ⟨m, hm⟩ : ∃ m : Nat, m = ls.length := ⟨_, rfl⟩
        have HM : Hid (m = ls.length) := hm
        rw [← hm] at hl2 hll
        have hO2 : OwnG w [Rw.st (.slice al m cl) ls, Rw.st (.slice aa n ca) ps] wr := by rw [hm]; exact hOx
        rw [← hm] at hrl ⊢
        replace hOx := hO2
        clear hO2 hd hiI
        by_cases hm0 : ls = []
        · have hmz : m = 0 := by rw [HM.out, hm0]; rfl
          have hmI : ((m : Int) == 0) = true := by rw [hmz]; rfl
          have HA : Hid (psA s = (zeP, 20)) := by
            show _ = _
            unfold psA
            rw [if_neg (by have := HLs.out; omega), if_pos (.inl (by rw [← HI3.out]; exact hm0))]
          clear hm hm0 hrl
          go_wp2_with fail
          refine wpG_begin (by kernel_rfl) ?_
          refine wpG_take (i := 0) (oi := { dst := some 39, op := Op.move (Operand.tmp 5), type := 54, pos := "ref.go:148", after := #[], guard := none }) (v := ?_) rfl (by kernel_rfl) (by kernel_rfl) (by kernel_rfl) (by rfl) ?_ ?_
          rotate_left
          · intro W hW; first | (go_simp; done) | (go_simp; with_reducible rfl)
          try simp only [Act.put, List.setIfInBounds_toArray, List.set_cons_zero, List.set_cons_succ]
          refine wpG_take (i := 1) (oi := { dst := some 40, op := Op.call { callee := Callee.builtin Builtin.len, args := #[Operand.tmp 39], argTypes := #[54] }, type := 3, pos := "ref.go:148", after := #[{ on := 0, ground := Ground.data }], guard := none }) (v := ?_) rfl (by kernel_rfl) (by kernel_rfl) (by kernel_rfl) (by rfl) ?_ ?_
          rotate_left
          · intro W hW; first | (go_simp; done) | (go_simp; with_reducible rfl)
          try simp only [Act.put, List.setIfInBounds_toArray, List.set_cons_zero, List.set_cons_succ]
          refine wpG_take (i := 2) (oi := { dst := some 41, op := Op.binOp BinOp.eql 3 (Operand.tmp 40) (Operand.const (Value.int IntKind.i64 0)) 3, type := 4, pos := "ref.go:148", after := #[{ on := 1, ground := Ground.data }], guard := none }) (v := ?_) rfl (by kernel_rfl) (by kernel_rfl) (by kernel_rfl) (by rfl) ?_ ?_
          rotate_left
          · intro W hW; first | (go_simp; done) | (go_simp; with_reducible rfl)
          try simp only [Act.put, List.setIfInBounds_toArray, List.set_cons_zero, List.set_cons_succ]
          refine wpG_take (i := 3) (oi := { dst := some 42, op := Op.move (Operand.tmp 41), type := 4, pos := "ref.go:148", after := #[{ on := 2, ground := Ground.data }], guard := none }) (v := ?_) rfl (by kernel_rfl) (by kernel_rfl) (by kernel_rfl) (by rfl) ?_ ?_
          rotate_left
          · intro W hW; first | (go_simp; done) | (go_simp; with_reducible rfl)
          try simp only [Act.put, List.setIfInBounds_toArray, List.set_cons_zero, List.set_cons_succ]
          refine wpG_skip (i := 4) (oi := { dst := some 43, op := Op.move (Operand.tmp 5), type := 54, pos := "ref.go:148", after := #[{ on := 3, ground := Ground.guard }], guard := some (3, false) }) rfl (by kernel_rfl) (by kernel_rfl) (by kernel_rfl) (by rfl) ?_
          try simp only [Act.put, List.setIfInBounds_toArray, List.set_cons_zero, List.set_cons_succ]
          refine wpG_skip (i := 5) (oi := { dst := some 44, op := Op.indexAddr 54 (Operand.tmp 43) (Operand.const (Value.int IntKind.i64 0)), type := 0, pos := "ref.go:148", after := #[{ on := 4, ground := Ground.data }, { on := 3, ground := Ground.guard }], guard := some (3, false) }) rfl (by kernel_rfl) (by kernel_rfl) (by kernel_rfl) (by rfl) ?_
          try simp only [Act.put, List.setIfInBounds_toArray, List.set_cons_zero, List.set_cons_succ]
          refine wpG_skip (i := 6) (oi := { dst := some 45, op := Op.load 9 (Operand.tmp 44), type := 9, pos := "ref.go:148", after := #[{ on := 5, ground := Ground.data }, { on := 3, ground := Ground.guard }], guard := some (3, false) }) rfl (by kernel_rfl) (by kernel_rfl) (by kernel_rfl) (by rfl) ?_
          try simp only [Act.put, List.setIfInBounds_toArray, List.set_cons_zero, List.set_cons_succ]
          refine wpG_skip (i := 7) (oi := { dst := some 46, op := Op.move (Operand.tmp 5), type := 54, pos := "ref.go:148", after := #[{ on := 3, ground := Ground.guard }], guard := some (3, false) }) rfl (by kernel_rfl) (by kernel_rfl) (by kernel_rfl) (by rfl) ?_
          try simp only [Act.put, List.setIfInBounds_toArray, List.set_cons_zero, List.set_cons_succ]
          refine wpG_skip (i := 8) (oi := { dst := some 47, op := Op.indexAddr 54 (Operand.tmp 46) (Operand.const (Value.int IntKind.i64 0)), type := 0, pos := "ref.go:148", after := #[{ on := 7, ground := Ground.data }, { on := 3, ground := Ground.guard }], guard := some (3, false) }) rfl (by kernel_rfl) (by kernel_rfl) (by kernel_rfl) (by rfl) ?_
          try simp only [Act.put, List.setIfInBounds_toArray, List.set_cons_zero, List.set_cons_succ]
          refine wpG_skip (i := 9) (oi := { dst := some 48, op := Op.load 9 (Operand.tmp 47), type := 9, pos := "ref.go:148", after := #[{ on := 8, ground := Ground.data }, { on := 3, ground := Ground.guard }], guard := some (3, false) }) rfl (by kernel_rfl) (by kernel_rfl) (by kernel_rfl) (by rfl) ?_
          try simp only [Act.put, List.setIfInBounds_toArray, List.set_cons_zero, List.set_cons_succ]
          refine wpG_skip (i := 10) (oi := { dst := some 49, op := Op.call { callee := Callee.builtin Builtin.len, args := #[Operand.tmp 48], argTypes := #[9] }, type := 3, pos := "ref.go:148", after := #[{ on := 9, ground := Ground.data }, { on := 3, ground := Ground.guard }], guard := some (3, false) }) rfl (by kernel_rfl) (by kernel_rfl) (by kernel_rfl) (by rfl) ?_
          try simp only [Act.put, List.setIfInBounds_toArray, List.set_cons_zero, List.set_cons_succ]
          refine wpG_skip (i := 11) (oi := { dst := some 50, op := Op.binOp BinOp.sub 3 (Operand.tmp 49) (Operand.const (Value.int IntKind.i64 1)) 3, type := 3, pos := "ref.go:148", after := #[{ on := 10, ground := Ground.data }, { on := 3, ground := Ground.guard }], guard := some (3, false) }) rfl (by kernel_rfl) (by kernel_rfl) (by kernel_rfl) (by rfl) ?_
          try simp only [Act.put, List.setIfInBounds_toArray, List.set_cons_zero, List.set_cons_succ]
          refine wpG_skip (i := 12) (oi := { dst := some 51, op := Op.index 9 (Operand.tmp 45) (Operand.tmp 50), type := 5, pos := "ref.go:148", after := #[{ on := 6, ground := Ground.data }, { on := 11, ground := Ground.data }, { on := 3, ground := Ground.guard }], guard := some (3, false) }) rfl (by kernel_rfl) (by kernel_rfl) (by kernel_rfl) (by rfl) ?_
          try simp only [Act.put, List.setIfInBounds_toArray, List.set_cons_zero, List.set_cons_succ]
          refine wpG_skip (i := 13) (oi := { dst := some 52, op := Op.binOp BinOp.neq 5 (Operand.tmp 51) (Operand.const (Value.int IntKind.u8 58)) 5, type := 4, pos := "ref.go:148", after := #[{ on := 12, ground := Ground.data }, { on := 3, ground := Ground.guard }], guard := some (3, false) }) rfl (by kernel_rfl) (by kernel_rfl) (by kernel_rfl) (by rfl) ?_
          try simp only [Act.put, List.setIfInBounds_toArray, List.set_cons_zero, List.set_cons_succ]
          refine wpG_take (i := 14) (oi := { dst := some 53, op := Op.pick (Operand.tmp 42) (Operand.const (Value.bool true)) (Operand.tmp 52), type := 4, pos := "ref.go:148", after := #[{ on := 3, ground := Ground.data }, { on := 13, ground := Ground.data }], guard := none }) (v := ?_) rfl (by kernel_rfl) (by kernel_rfl) (by kernel_rfl) (by rfl) ?_ ?_
          rotate_left
          · intro W hW; first | (go_simp; done) | (go_simp; with_reducible rfl)
          try simp only [Act.put, List.setIfInBounds_toArray, List.set_cons_zero, List.set_cons_succ]
          refine wpG_done (by kernel_rfl) ?_
          replace rzx := rzx.drew
          replace rpx := rpx.drew
          replace hOx := hOx.drew
          go_wp2_with (first | refine wpList_load_part rfl 36 _ rfl rfl [] (ptC zeP (.slice none 0 0) (.slice none 0 0)) [] rpx (whole15 _) rfl Tryz.underlying36 rfl (ptInfo _ _ _) ?_ | (refine wpList_store_part rfl 36 _ _ rfl rfl (ptC zeP (.slice none 0 0) (.slice none 0 0)) rfl [] (ptC zeP (.slice none 0 0) (.slice none 0 0)) [] (ptC zeP (.slice none 0 0) (.slice none 0 0)) rzx (whole15 _) (whole15 _) rfl rfl (ptInfo _ _ _) (ptC_all _ _ _ _ _ _ _) ?_; intro w7 r7 hw7))
          refine bodyPost_blk2 rfl rfl rfl rfl r7 Tryz.underlying36 rfl (ptInfo _ _ _) ?_
          exact refuse15 HA.out (hw7.below _ _ (Nat.le_refl _) hOx.below)
        · have hm1 : 0 < ls.length := List.length_pos_iff.2 hm0
          have hmp : 0 < m := by rw [HM.out]; exact hm1
          have hmI : ((m : Int) == 0) = false := by
            have : ¬ (m : Int) = 0 := by omega
            simpa using this
          have hmI2 : (0 : Int) < (m : Int) := by omega
          obtain ⟨b0, off0, cap0, ev, -, -, hc0⟩ := hrl.cellAt (i := 0) (by rw [stC_length]; exact hm1)
          rw [stC_at ls 0 hm1, Nat.add_zero] at hc0
          simp only [Value.slice.injEq] at ev
          obtain ⟨rfl, -, -⟩ := ev
          have HF0 : Hid (ls.getD 0 [] = ls[0]) := by show _ = _; simp [hm1]
          have hfm := HMm.out _ (List.getElem_mem hm1)
          generalize ls[0] = f at hc0 HF0 hfm
          obtain ⟨k, hk⟩ : ∃ k : Nat, k = f.length - 1 := ⟨_, rfl⟩
          have hf1 : 0 < f.length := List.length_pos_iff.2 hfm.1
          have hkl : k < f.length := by omega
          have hkf : f.length = k + 1 := by omega
          have hk4 : k ≤ 4096 := by omega
          have HFk : Hid (f.length - 1 = k) := hk.symm
          generalize hFB : (⟨f.toArray⟩ : ByteArray) = FB at hc0
          obtain ⟨fl, hfl⟩ : ∃ x : Nat, x = f.length := ⟨_, rfl⟩
          have hFz : FB.size = fl := by rw [← hFB, hfl]; rfl
          have hkfl : (k : Int) < (fl : Int) := by omega
          have hkfl2 : (k : Int) ≤ (fl : Int) := by omega
          have hat : ∀ w : World, (Instr.index 9 (.string FB) (.int .i64 (k : Int))).run Tryz.prog w = .ok (.int .u8 ((f.getD k 0).toNat : Int)) w := fun w => str_atS f FB hFB k hkl w
          have hsub : IntKind.i64.wrap ((fl : Int) - 1) = (k : Int) := by rw [IntWalk.i64_in _ (by omega)]; omega
          have HFB : Hid (FB = ⟨f.toArray⟩) := hFB.symm
          have HF4 : Hid (f.length ≤ 4096) := hfm.2
          have HKF : Hid (k < f.length) := hkl
          clear hm hrl hfm hk hFB hm0 hm1 hf1 hfl hkf hkl
          obtain ⟨qb, hqb⟩ : ∃ q : UInt8, q = f.getD k 0 := ⟨_, rfl⟩
          rw [← hqb] at hat
          have HQb : Hid _ := hqb
          clear hqb
          rcases byte_is qb 58 with ⟨h58, q1, q2⟩ | ⟨h58, q1, q2⟩
          · have HNo : Hid (¬ (lnS s = [] ∨ ((lnS s).getD 0 []).getD (((lnS s).getD 0 []).length - 1) 0 ≠ 58)) := by
              show ¬ _
              rw [← HI3.out, HF0.out, HFk.out, ← HQb.out]
              intro h
              rcases h with h | h
              · have := HM.out
                rw [h] at this
                simp at this
                omega
              · exact h h58
            clear h58
            have q3 : ((qb.toNat : Int) == 58) = true := q1
            have q4 : (qb.toNat : Int) = 58 := q2
            clear q1 q2
            go_wp2_with fail
            refine wpG_begin (by kernel_rfl) ?_
            refine wpG_take (i := 0) (oi := { dst := some 39, op := Op.move (Operand.tmp 5), type := 54, pos := "ref.go:148", after := #[], guard := none }) (v := ?_) rfl (by kernel_rfl) (by kernel_rfl) (by kernel_rfl) (by rfl) ?_ ?_
            rotate_left
            · intro W hW; first | (go_simp; done) | (go_simp; with_reducible rfl)
            try simp only [Act.put, List.setIfInBounds_toArray, List.set_cons_zero, List.set_cons_succ]
            refine wpG_take (i := 1) (oi := { dst := some 40, op := Op.call { callee := Callee.builtin Builtin.len, args := #[Operand.tmp 39], argTypes := #[54] }, type := 3, pos := "ref.go:148", after := #[{ on := 0, ground := Ground.data }], guard := none }) (v := ?_) rfl (by kernel_rfl) (by kernel_rfl) (by kernel_rfl) (by rfl) ?_ ?_
            rotate_left
            · intro W hW; first | (go_simp; done) | (go_simp; with_reducible rfl)
            try simp only [Act.put, List.setIfInBounds_toArray, List.set_cons_zero, List.set_cons_succ]
            refine wpG_take (i := 2) (oi := { dst := some 41, op := Op.binOp BinOp.eql 3 (Operand.tmp 40) (Operand.const (Value.int IntKind.i64 0)) 3, type := 4, pos := "ref.go:148", after := #[{ on := 1, ground := Ground.data }], guard := none }) (v := ?_) rfl (by kernel_rfl) (by kernel_rfl) (by kernel_rfl) (by rfl) ?_ ?_
            rotate_left
            · intro W hW; first | (go_simp; done) | (go_simp; with_reducible rfl)
            try simp only [Act.put, List.setIfInBounds_toArray, List.set_cons_zero, List.set_cons_succ]
            refine wpG_take (i := 3) (oi := { dst := some 42, op := Op.move (Operand.tmp 41), type := 4, pos := "ref.go:148", after := #[{ on := 2, ground := Ground.data }], guard := none }) (v := ?_) rfl (by kernel_rfl) (by kernel_rfl) (by kernel_rfl) (by rfl) ?_ ?_
            rotate_left
            · intro W hW; first | (go_simp; done) | (go_simp; with_reducible rfl)
            try simp only [Act.put, List.setIfInBounds_toArray, List.set_cons_zero, List.set_cons_succ]
            refine wpG_take (i := 4) (oi := { dst := some 43, op := Op.move (Operand.tmp 5), type := 54, pos := "ref.go:148", after := #[{ on := 3, ground := Ground.guard }], guard := some (3, false) }) (v := ?_) rfl (by kernel_rfl) (by kernel_rfl) (by kernel_rfl) (by rfl) ?_ ?_
            rotate_left
            · intro W hW; first | (go_simp; done) | (go_simp; with_reducible rfl)
            try simp only [Act.put, List.setIfInBounds_toArray, List.set_cons_zero, List.set_cons_succ]
            refine wpG_take (i := 5) (oi := { dst := some 44, op := Op.indexAddr 54 (Operand.tmp 43) (Operand.const (Value.int IntKind.i64 0)), type := 0, pos := "ref.go:148", after := #[{ on := 4, ground := Ground.data }, { on := 3, ground := Ground.guard }], guard := some (3, false) }) (v := ?_) rfl (by kernel_rfl) (by kernel_rfl) (by kernel_rfl) (by rfl) ?_ ?_
            rotate_left
            · intro W hW; first | (go_simp; done) | (go_simp; with_reducible rfl)
            try simp only [Act.put, List.setIfInBounds_toArray, List.set_cons_zero, List.set_cons_succ]
            refine wpG_take (i := 6) (oi := { dst := some 45, op := Op.load 9 (Operand.tmp 44), type := 9, pos := "ref.go:148", after := #[{ on := 5, ground := Ground.data }, { on := 3, ground := Ground.guard }], guard := some (3, false) }) (v := ?_) rfl (by kernel_rfl) (by kernel_rfl) (by kernel_rfl) (by rfl) ?_ ?_
            rotate_left
            · intro W hW; have hcW := cellDK15 hc0 hW; first | (go_simp; done) | (go_simp; with_reducible rfl)
            try simp only [Act.put, List.setIfInBounds_toArray, List.set_cons_zero, List.set_cons_succ]
            refine wpG_take (i := 7) (oi := { dst := some 46, op := Op.move (Operand.tmp 5), type := 54, pos := "ref.go:148", after := #[{ on := 3, ground := Ground.guard }], guard := some (3, false) }) (v := ?_) rfl (by kernel_rfl) (by kernel_rfl) (by kernel_rfl) (by rfl) ?_ ?_
            rotate_left
            · intro W hW; first | (go_simp; done) | (go_simp; with_reducible rfl)
            try simp only [Act.put, List.setIfInBounds_toArray, List.set_cons_zero, List.set_cons_succ]
            refine wpG_take (i := 8) (oi := { dst := some 47, op := Op.indexAddr 54 (Operand.tmp 46) (Operand.const (Value.int IntKind.i64 0)), type := 0, pos := "ref.go:148", after := #[{ on := 7, ground := Ground.data }, { on := 3, ground := Ground.guard }], guard := some (3, false) }) (v := ?_) rfl (by kernel_rfl) (by kernel_rfl) (by kernel_rfl) (by rfl) ?_ ?_
            rotate_left
            · intro W hW; first | (go_simp; done) | (go_simp; with_reducible rfl)
            try simp only [Act.put, List.setIfInBounds_toArray, List.set_cons_zero, List.set_cons_succ]
            refine wpG_take (i := 9) (oi := { dst := some 48, op := Op.load 9 (Operand.tmp 47), type := 9, pos := "ref.go:148", after := #[{ on := 8, ground := Ground.data }, { on := 3, ground := Ground.guard }], guard := some (3, false) }) (v := ?_) rfl (by kernel_rfl) (by kernel_rfl) (by kernel_rfl) (by rfl) ?_ ?_
            rotate_left
            · intro W hW; have hcW := cellDK15 hc0 hW; first | (go_simp; done) | (go_simp; with_reducible rfl)
            try simp only [Act.put, List.setIfInBounds_toArray, List.set_cons_zero, List.set_cons_succ]
            refine wpG_take (i := 10) (oi := { dst := some 49, op := Op.call { callee := Callee.builtin Builtin.len, args := #[Operand.tmp 48], argTypes := #[9] }, type := 3, pos := "ref.go:148", after := #[{ on := 9, ground := Ground.data }, { on := 3, ground := Ground.guard }], guard := some (3, false) }) (v := ?_) rfl (by kernel_rfl) (by kernel_rfl) (by kernel_rfl) (by rfl) ?_ ?_
            rotate_left
            · intro W hW; first | (go_simp; done) | (go_simp; with_reducible rfl)
            try simp only [Act.put, List.setIfInBounds_toArray, List.set_cons_zero, List.set_cons_succ]
            refine wpG_take (i := 11) (oi := { dst := some 50, op := Op.binOp BinOp.sub 3 (Operand.tmp 49) (Operand.const (Value.int IntKind.i64 1)) 3, type := 3, pos := "ref.go:148", after := #[{ on := 10, ground := Ground.data }, { on := 3, ground := Ground.guard }], guard := some (3, false) }) (v := ?_) rfl (by kernel_rfl) (by kernel_rfl) (by kernel_rfl) (by rfl) ?_ ?_
            rotate_left
            · intro W hW; first | (go_simp; done) | (go_simp; with_reducible rfl)
            try simp only [Act.put, List.setIfInBounds_toArray, List.set_cons_zero, List.set_cons_succ]
            refine wpG_take (i := 12) (oi := { dst := some 51, op := Op.index 9 (Operand.tmp 45) (Operand.tmp 50), type := 5, pos := "ref.go:148", after := #[{ on := 6, ground := Ground.data }, { on := 11, ground := Ground.data }, { on := 3, ground := Ground.guard }], guard := some (3, false) }) (v := ?_) rfl (by kernel_rfl) (by kernel_rfl) (by kernel_rfl) (by rfl) ?_ ?_
            rotate_left
            · intro W hW; first | (go_simp; done) | (go_simp; with_reducible rfl)
            try simp only [Act.put, List.setIfInBounds_toArray, List.set_cons_zero, List.set_cons_succ]
            refine wpG_take (i := 13) (oi := { dst := some 52, op := Op.binOp BinOp.neq 5 (Operand.tmp 51) (Operand.const (Value.int IntKind.u8 58)) 5, type := 4, pos := "ref.go:148", after := #[{ on := 12, ground := Ground.data }, { on := 3, ground := Ground.guard }], guard := some (3, false) }) (v := ?_) rfl (by kernel_rfl) (by kernel_rfl) (by kernel_rfl) (by rfl) ?_ ?_
            rotate_left
            · intro W hW; first | (go_simp; done) | (go_simp; with_reducible rfl)
            try simp only [Act.put, List.setIfInBounds_toArray, List.set_cons_zero, List.set_cons_succ]
            refine wpG_take (i := 14) (oi := { dst := some 53, op := Op.pick (Operand.tmp 42) (Operand.const (Value.bool true)) (Operand.tmp 52), type := 4, pos := "ref.go:148", after := #[{ on := 3, ground := Ground.data }, { on := 13, ground := Ground.data }], guard := none }) (v := ?_) rfl (by kernel_rfl) (by kernel_rfl) (by kernel_rfl) (by rfl) ?_ ?_
            rotate_left
            · intro W hW; first | (go_simp; done) | (go_simp; with_reducible rfl)
            try simp only [Act.put, List.setIfInBounds_toArray, List.set_cons_zero, List.set_cons_succ]
            refine wpG_done (by kernel_rfl) ?_
            have hc1 : wr.drew.cell? ⟨b0, off0, none⟩ = some (.string FB) := hc0
            have hcP := rpx.cell 0
            have hcP0 : wr.drew.cell? ⟨w1.heap.size, 0, none⟩ = some (.string ⟨(zeP.name).toArray⟩) := hcP
            have hfP0 := rpx.free 0
            have HCut : Hid (FB.extract 0 k = ⟨(f.take k).toArray⟩) := by
              show _ = _
              rw [HFB.out, bytes_part f 0 k (by omega) (by have := HKF.out; omega)]
              rfl
            have HTk : Hid ((f.take k).length ≤ 1000000) := by show _ ≤ _; rw [List.length_take]; have := HF4.out; omega
            obtain ⟨nm, hnm⟩ : ∃ l : List UInt8, l = tmT (f.take k) := ⟨_, rfl⟩
            have HNm : Hid (nm = tmT (f.take k)) := hnm
            have hk0 : (0 : Int) ≤ (k : Int) := by omega
            clear hnm hcP hc0
            go_wp2_with fail
            refine wpE_begin 11 (by kernel_rfl) ?_
            refine wpE_take (i := 0) (oi := { dst := some 55, op := Op.move (Operand.tmp 5), type := 54, pos := "ref.go:151", after := #[], guard := none }) (v := ?_) rfl (by decide) (by kernel_rfl) (by kernel_rfl) (by kernel_rfl) (by kernel_rfl) (by rfl) ?_ ?_
            rotate_left
            · intro W hW; first | (go_simp; done) | (go_simp; with_reducible rfl)
            try simp only [Act.put, List.setIfInBounds_toArray, List.set_cons_zero, List.set_cons_succ]
            refine wpE_take (i := 1) (oi := { dst := some 56, op := Op.indexAddr 54 (Operand.tmp 55) (Operand.const (Value.int IntKind.i64 0)), type := 0, pos := "ref.go:151", after := #[{ on := 0, ground := Ground.data }], guard := none }) (v := ?_) rfl (by decide) (by kernel_rfl) (by kernel_rfl) (by kernel_rfl) (by kernel_rfl) (by rfl) ?_ ?_
            rotate_left
            · intro W hW; first | (go_simp; done) | (go_simp; with_reducible rfl)
            try simp only [Act.put, List.setIfInBounds_toArray, List.set_cons_zero, List.set_cons_succ]
            refine wpE_take (i := 2) (oi := { dst := some 57, op := Op.load 9 (Operand.tmp 56), type := 9, pos := "ref.go:151", after := #[{ on := 1, ground := Ground.data }], guard := none }) (v := ?_) rfl (by decide) (by kernel_rfl) (by kernel_rfl) (by kernel_rfl) (by kernel_rfl) (by rfl) ?_ ?_
            rotate_left
            · intro W hW; have hcW := cellDK15 hc1 hW; first | (go_simp; done) | (go_simp; with_reducible rfl)
            try simp only [Act.put, List.setIfInBounds_toArray, List.set_cons_zero, List.set_cons_succ]
            refine wpE_take (i := 3) (oi := { dst := some 58, op := Op.move (Operand.tmp 5), type := 54, pos := "ref.go:151", after := #[], guard := none }) (v := ?_) rfl (by decide) (by kernel_rfl) (by kernel_rfl) (by kernel_rfl) (by kernel_rfl) (by rfl) ?_ ?_
            rotate_left
            · intro W hW; first | (go_simp; done) | (go_simp; with_reducible rfl)
            try simp only [Act.put, List.setIfInBounds_toArray, List.set_cons_zero, List.set_cons_succ]
            refine wpE_take (i := 4) (oi := { dst := some 59, op := Op.indexAddr 54 (Operand.tmp 58) (Operand.const (Value.int IntKind.i64 0)), type := 0, pos := "ref.go:151", after := #[{ on := 3, ground := Ground.data }], guard := none }) (v := ?_) rfl (by decide) (by kernel_rfl) (by kernel_rfl) (by kernel_rfl) (by kernel_rfl) (by rfl) ?_ ?_
            rotate_left
            · intro W hW; first | (go_simp; done) | (go_simp; with_reducible rfl)
            try simp only [Act.put, List.setIfInBounds_toArray, List.set_cons_zero, List.set_cons_succ]
            refine wpE_take (i := 5) (oi := { dst := some 60, op := Op.load 9 (Operand.tmp 59), type := 9, pos := "ref.go:151", after := #[{ on := 4, ground := Ground.data }], guard := none }) (v := ?_) rfl (by decide) (by kernel_rfl) (by kernel_rfl) (by kernel_rfl) (by kernel_rfl) (by rfl) ?_ ?_
            rotate_left
            · intro W hW; have hcW := cellDK15 hc1 hW; first | (go_simp; done) | (go_simp; with_reducible rfl)
            try simp only [Act.put, List.setIfInBounds_toArray, List.set_cons_zero, List.set_cons_succ]
            refine wpE_take (i := 6) (oi := { dst := some 61, op := Op.call { callee := Callee.builtin Builtin.len, args := #[Operand.tmp 60], argTypes := #[9] }, type := 3, pos := "ref.go:151", after := #[{ on := 5, ground := Ground.data }], guard := none }) (v := ?_) rfl (by decide) (by kernel_rfl) (by kernel_rfl) (by kernel_rfl) (by kernel_rfl) (by rfl) ?_ ?_
            rotate_left
            · intro W hW; first | (go_simp; done) | (go_simp; with_reducible rfl)
            try simp only [Act.put, List.setIfInBounds_toArray, List.set_cons_zero, List.set_cons_succ]
            refine wpE_take (i := 7) (oi := { dst := some 62, op := Op.binOp BinOp.sub 3 (Operand.tmp 61) (Operand.const (Value.int IntKind.i64 1)) 3, type := 3, pos := "ref.go:151", after := #[{ on := 6, ground := Ground.data }], guard := none }) (v := ?_) rfl (by decide) (by kernel_rfl) (by kernel_rfl) (by kernel_rfl) (by kernel_rfl) (by rfl) ?_ ?_
            rotate_left
            · intro W hW; first | (go_simp; done) | (go_simp; with_reducible rfl)
            try simp only [Act.put, List.setIfInBounds_toArray, List.set_cons_zero, List.set_cons_succ]
            refine wpE_take (i := 8) (oi := { dst := some 63, op := Op.slice 9 (Operand.tmp 57) none (some (Operand.tmp 62)) none, type := 9, pos := "ref.go:151", after := #[{ on := 2, ground := Ground.data }, { on := 7, ground := Ground.data }], guard := none }) (v := ?_) rfl (by decide) (by kernel_rfl) (by kernel_rfl) (by kernel_rfl) (by kernel_rfl) (by rfl) ?_ ?_
            rotate_left
            · intro W hW; first | (go_simp; done) | (go_simp; with_reducible rfl)
            try simp only [Act.put, List.setIfInBounds_toArray, List.set_cons_zero, List.set_cons_succ]
            refine wpE_do (i := 9) (o := { dst := some 64, op := Op.call { callee := Callee.value (Operand.func 39), args := #[Operand.tmp 63], argTypes := #[9] }, type := 9, pos := "ref.go:151", after := #[{ on := 8, ground := Ground.data }], guard := none }) (by kernel_rfl) rfl (by rfl) fun K hK => ?_
            go_simp
            rw [HCut.out]
            refine (trim15_any (f.take k) HTk.out _).mono ?_
            rintro e wq ⟨rfl, rfl⟩
            rw [← HNm.out]
            refine hK.out _ _ (Below.refl _ _) ?_
            clear hK K
            try simp only [Act.put, List.setIfInBounds_toArray, List.set_cons_zero, List.set_cons_succ]
            refine wpE_take (i := 10) (oi := { dst := some 65, op := Op.fieldAddr 36 (Operand.tmp 4) 0, type := 0, pos := "ref.go:151", after := #[{ on := 0, ground := Ground.phase }, { on := 1, ground := Ground.phase }, { on := 2, ground := Ground.phase }, { on := 3, ground := Ground.phase }, { on := 4, ground := Ground.phase }, { on := 5, ground := Ground.phase }, { on := 6, ground := Ground.phase }, { on := 7, ground := Ground.phase }, { on := 8, ground := Ground.phase }, { on := 9, ground := Ground.phase }], guard := none }) (v := ?_) rfl (by decide) (by kernel_rfl) (by kernel_rfl) (by kernel_rfl) (by kernel_rfl) (by rfl) ?_ ?_
            rotate_left
            · intro W hW; first | (go_simp; done) | (go_simp; with_reducible rfl)
            try simp only [Act.put, List.setIfInBounds_toArray, List.set_cons_zero, List.set_cons_succ]
            refine wpE_last (o := { dst := none, op := Op.store 9 (Operand.tmp 65) (Operand.tmp 64), type := 0, pos := "ref.go:151", after := #[{ on := 10, ground := Ground.data }, { on := 9, ground := Ground.data }, { on := 9, ground := Ground.chain }, { on := 0, ground := Ground.phase }, { on := 1, ground := Ground.phase }, { on := 2, ground := Ground.phase }, { on := 3, ground := Ground.phase }, { on := 4, ground := Ground.phase }, { on := 5, ground := Ground.phase }, { on := 6, ground := Ground.phase }, { on := 7, ground := Ground.phase }, { on := 8, ground := Ground.phase }, { on := 9, ground := Ground.phase }], guard := none }) (by kernel_rfl) (by kernel_rfl) rfl (by rfl) fun K hK => ?_
            go_simp
            refine hK.out _ _ ?_
            clear hK K
            try simp only [Act.put, List.setIfInBounds_toArray, List.set_cons_zero, List.set_cons_succ]
            have hwS := Wrote.set w1.heap.size 0 wr (.string ⟨nm.toArray⟩)
            have rz2 := (rzx.wrote hwS (by omega)).drew.drew
            have rp2 : BlkAt w1.heap.size 36 (ptC ⟨nm, false, false, []⟩ (.slice none 0 0) (.slice none 0 0)) (wr.setCell ⟨w1.heap.size, 0, none⟩ (.string ⟨nm.toArray⟩)).drew.drew := (rpx.set 0 (.string ⟨nm.toArray⟩)).drew.drew
            have hO2 := (hOx.wrote hwS (by omega) (fun q hq b hb e => by
              have hty : q.ty ≠ 36 := by
                simp only [List.mem_cons, List.not_mem_nil, or_false] at hq
                rcases hq with rfl | rfl <;> exact (show (9 : TypeId) ≠ 36 by decide)
              exact row_not_blk (hOx.rows q hq) rpx hty (by rw [hb, e]))).drew.drew
            generalize (wr.setCell ⟨w1.heap.size, 0, none⟩ (.string ⟨nm.toArray⟩)).drew.drew = WA at rz2 rp2 hO2 ⊢
            have hrl2 : RdC WA (.slice (some ⟨b0, off0, none⟩) m cl) (stC ls) := hO2.rdC rfl
            have HRl : Hid (RdC WA (.slice (some ⟨b0, off0, none⟩) m cl) (stC ls)) := hrl2
            obtain ⟨M1, hM1⟩ : ∃ x : Nat, x = m - 1 := ⟨_, rfl⟩
            have hm1s : IntKind.i64.wrap ((m : Int) - 1) = (M1 : Int) := by rw [IntWalk.i64_in _ (by omega)]; omega
            have HM1 : Hid (M1 = m - 1) := hM1
            have hM1m : M1 < m := by omega
            have HMs : Hid (m ≤ 4097) := by show _ ≤ _; omega
            clear hwS rzx rpx hOx hcP0 hfP0 hc1 hat q3 q4 hsub hrl2 hM1
            go_wp2
            go_loopw [9, 10] (fun dv iv wx => ∃ c j : Nat, c ≤ M1 ∧ Hid (j = M1 - c) ∧ dv = .int .i64 (dtR ls c) ∧ iv = .int .i64 (j : Int) ∧ WA = wx) (fun _ iv _ => (intOf iv).toNat)
            case atStart => exact ⟨0, M1, by omega, (by show _ = _; omega), rfl, rfl, rfl⟩
            case round =>
              obtain ⟨c, j, hc, HJ, rfl, rfl, rfl⟩ := hrel
              have hjM : j ≤ M1 := by have := HJ.out; omega
              by_cases hlt : 0 < j
              · have hd : decide ((0 : Int) < (j : Int)) = true := decide_eq_true (by omega)
                have hjI : (0 : Int) < (j : Int) := by omega
                have hjm : (j : Int) < (m : Int) := by omega
                have hlk : j < ls.length := by have := HM.out; omega
                obtain ⟨b1, off1, cap1, ev, -, -, hcj⟩ := HRl.out.cellAt (i := j) (by rw [stC_length]; exact hlk)
                rw [stC_at ls j hlk] at hcj
                simp only [Value.slice.injEq, Option.some.injEq, Addr.mk.injEq, and_true] at ev
                obtain ⟨⟨rfl, rfl⟩, -, -⟩ := ev
                have HNx : Hid (dtR ls (c + 1) = if ls[j] = dotT then (j : Int) else dtR ls c) := by
                  show _ = _
                  rw [dtR_next ls c j (by have := HM.out; have := HM1.out; have := HJ.out; omega)]
                  have : ls.getD j [] = ls[j] := by simp [hlk]
                  rw [this]
                generalize ls[j] = x at hcj HNx
                obtain ⟨XB, hXB⟩ : ∃ B : ByteArray, B = ⟨x.toArray⟩ := ⟨_, rfl⟩
                rw [← hXB] at hcj
                have hXl : XB.toList = x := by rw [hXB]; exact str_toList _
                obtain ⟨j1, hj1⟩ : ∃ y : Nat, y = j - 1 := ⟨_, rfl⟩
                have HJ1 : Hid (j1 = M1 - (c + 1)) := by show _ = _; have := HJ.out; omega
                have HJ2 : Hid (j1 < j) := by show _ < _; omega
                have hjs : IntKind.i64.wrap ((j : Int) - 1) = (j1 : Int) := by rw [IntWalk.i64_in _ (by omega)]; omega
                clear hXB hj1
                by_cases hx : x = dotT
                · have hXe : (XB.toList == [46, 46, 46]) = true := by rw [hXl, hx]; rfl
                  have hXe2 : XB.toList = [46, 46, 46] := by rw [hXl, hx]; rfl
                  have HN2 : Hid ((j : Int) = dtR ls (c + 1)) := by show _ = _; rw [HNx.out, if_pos hx]
                  clear hXl hx HNx
                  go_wp2
                  go_roundw
                  case rel => exact ⟨c + 1, j1, by have := HJ.out; omega, HJ1, by rw [HN2.out], rfl, trivial⟩
                  case measure => have := HJ2.out; simp [intOf] <;> omega
                · have hXe : (XB.toList == [46, 46, 46]) = false := by rw [hXl]; simpa [dotT] using hx
                  have hXe2 : ¬ XB.toList = [46, 46, 46] := by rw [hXl]; exact hx
                  have HN2 : Hid (dtR ls c = dtR ls (c + 1)) := by show _ = _; rw [HNx.out, if_neg hx]
                  clear hXl hx HNx
                  go_wp2
                  go_roundw
                  case rel => exact ⟨c + 1, j1, by have := HJ.out; omega, HJ1, by rw [HN2.out], rfl, trivial⟩
                  case measure => have := HJ2.out; simp [intOf] <;> omega
              · have hd : decide ((0 : Int) < (j : Int)) = false := decide_eq_false (by omega)
                have hjI : (j : Int) ≤ 0 := by omega
                have hcM : c = M1 := by have := HJ.out; omega
                subst hcM
                obtain ⟨D, hD⟩ : ∃ D : Int, D = dtR ls c := ⟨_, rfl⟩
                rw [← hD]
                have HDd : Hid (D = dtR (lnS s) ((lnS s).length - 1)) := by
                  show _ = _
                  rw [hD, HI3.out, HM1.out, HM.out, HI3.out]
                have hDb := dtR_bound ls c
                rw [← hD, ← HM.out] at hDb
                have HDb : Hid (-1 ≤ D ∧ D ≤ (m : Int)) := hDb
                clear hD hDb
                by_cases hD1 : D = 1
                · have hDe : (D == 1) = true := by rw [hD1]; rfl
                  have HA : Hid (psA s = (zeP, 20)) := by
                    show _ = _
                    unfold psA
                    rw [if_neg (by have := HLs.out; omega), if_neg HNo.out, if_pos (by rw [← HDd.out]; exact hD1)]
                  clear hD1
                  go_wp2_with (first | refine wpList_buildB rfl 36 #[] rfl #[] (by simp) _ (buildPt _) ?_ | (refine wpList_store_part rfl 36 _ _ rfl rfl (ptC zeP (.slice none 0 0) (.slice none 0 0)) rfl [] (ptC zeP (.slice none 0 0) (.slice none 0 0)) [] (ptC zeP (.slice none 0 0) (.slice none 0 0)) rz2 (whole15 _) (whole15 _) rfl rfl (ptInfo _ _ _) (ptC_all _ _ _ _ _ _ _) ?_; intro w7 r7 hw7))
                  refine bodyPost_blk2 rfl rfl rfl rfl r7 Tryz.underlying36 rfl (ptInfo _ _ _) ?_
                  exact refuse15 HA.out (hw7.below _ _ (Nat.le_refl _) hO2.below)
                · have hDe : (D == 1) = false := by simpa using hD1
                  obtain ⟨tb, htb, hb0, hb1, hb2⟩ := info_parts infoBool
                  obtain ⟨ts, hts, hs0, hs1, hs2⟩ := info_parts infoSl
                  have HPs2 : Hid (∀ r, rnP D ls ⟨nm, false, false, []⟩ (m - 1) = r → psA s = psE r) := by
                    intro r hr
                    have e : rnP (dtR (lnS s) ((lnS s).length - 1)) (lnS s) ⟨tmT (((lnS s).getD 0 []).take (((lnS s).getD 0 []).length - 1)), false, false, []⟩ ((lnS s).length - 1) = r := by
                      rw [← HDd.out, ← HI3.out, HF0.out, HFk.out, ← HNm.out, ← HM.out]
                      exact hr
                    unfold psA
                    rw [if_neg (by have := HLs.out; omega), if_neg HNo.out, if_neg (by rw [← HDd.out]; exact hD1), e]
                  have HNone : Hid (∀ (i j : Nat) (p : Ptn) (x : List UInt8), i = j + 1 → i < m → rnP D ls ⟨nm, false, false, []⟩ j = some p → ls.getD i [] = x → lnP D i x p = none → psA s = (zeP, 20)) := by
                    intro i j p x hi him hr hx hn
                    have h1 : rnP D ls ⟨nm, false, false, []⟩ i = none := by rw [rnP_step D ls _ p i j hi hr x hx, hn]
                    have h2 := rnP_none D ls _ i h1 (m - 1 - i)
                    rw [show i + (m - 1 - i) = m - 1 by omega] at h2
                    exact HPs2.out none h2
                  have HNmL : Hid (nm.length ≤ 4096) := by
                    show _ ≤ _
                    rw [HNm.out]
                    refine Nat.le_trans (tmT_len _) ?_
                    rw [List.length_take]
                    have := HF4.out
                    omega
                  obtain ⟨LN, hLN⟩ : ∃ q : Rw, q = Rw.st (.slice (some ⟨b0, off0, none⟩) m cl) ls := ⟨_, rfl⟩
                  have HLN : Hid (LN = Rw.st (.slice (some ⟨b0, off0, none⟩) m cl) ls) := hLN
                  have hO4 : OwnG w (⟨4, 1, .slice none 0 0, 0, []⟩ :: ⟨63, 1, .slice none 0 0, 0, []⟩ :: [LN, Rw.st (.slice aa n ca) ps]) WA := by
                    rw [hLN]
                    exact ((hO2.nil 63 1).nil 4 1)
                  have HR0 : Hid (Rst [LN, Rw.st (.slice aa n ca) ps] [] ⟨nm, false, false, []⟩ LN) := ⟨rfl, (fun k hk => by cases hk), List.mem_cons_self .., (fun q hq => by
                    rw [hLN] at hq
                    simp only [List.mem_cons, List.not_mem_nil, or_false] at hq
                    rcases hq with rfl | rfl <;> exact .inr rfl)⟩
                  clear hLN hO2 hD1 HRl
                  go_wp2
                  go_loopw [11] (fun iv wx => ∃ (i j : Nat) (p : Ptn) (ai ar : Option Addr) (ci cr pn : Nat) (vs : List Value) (rest : List Rw), i ≤ m ∧ 1 ≤ i ∧ Hid (i = j + 1) ∧ iv = .int .i64 (i : Int) ∧ pn ≤ j ∧ Hid (pn = p.n) ∧ Hid (rnP D ls ⟨nm, false, false, []⟩ j = some p) ∧ Hid (p.name.length ≤ 4096) ∧ Hid (Rst rest vs p LN) ∧ OwnG w (⟨4, 1, .slice ai pn ci, pn, p.ms.map fun m => Value.bool m.1⟩ :: ⟨63, 1, .slice ar pn cr, pn, vs⟩ :: rest) wx ∧ BlkAt w1.heap.size 36 (ptC p (.slice ai pn ci) (.slice ar pn cr)) wx ∧ BlkAt w.heap.size 36 (ptC zeP (.slice none 0 0) (.slice none 0 0)) wx) (fun iv _ => m - (intOf iv).toNat)
                  case atStart => exact ⟨1, 0, ⟨nm, false, false, []⟩, none, none, 0, 0, 0, [], _, by omega, by omega, (by show _ = _; rfl), rfl, by omega, (by show _ = _; rfl), (by show _ = _; rfl), HNmL, HR0, hO4, rp2, rz2⟩
                  case round =>
                    obtain ⟨i, j, p, ai, ar, ci, cr, pn, vs, rest, him, hi1, HIJ, rfl, hpj, HPn2, HRn, HNl, HRs, hOy, rpy, rzy⟩ := hrel
                    clear hO4 rp2 rz2 HR0
                    by_cases hlt : i < m
                    · have hd : decide ((i : Int) < (m : Int)) = true := decide_eq_true (by omega)
                      have hiI : (i : Int) < (m : Int) := by omega
                      have hlk : i < ls.length := by rw [← HM.out]; exact hlt
                      have hln := hOy.rows LN (List.mem_cons_of_mem _ (List.mem_cons_of_mem _ HRs.out.lines))
                      rw [HLN.out] at hln
                      have hrc : RdC wr (.slice (some ⟨b0, off0, none⟩) m cl) (stC ls) := RdC.of_own hln
                      obtain ⟨b1, off1, cap1, ev, -, -, hcj⟩ := hrc.cellAt (i := i) (by rw [stC_length]; exact hlk)
                      rw [stC_at ls i hlk] at hcj
                      simp only [Value.slice.injEq, Option.some.injEq, Addr.mk.injEq, and_true] at ev
                      obtain ⟨⟨rfl, rfl⟩, -, -⟩ := ev
                      have HX : Hid (ls.getD i [] = ls[i]) := by show _ = _; simp [hlk]
                      have HXm := HMm.out _ (List.getElem_mem hlk)
                      have HX4 : Hid (ls[i].length ≤ 4096) := HXm.2
                      clear hln hrc HXm
                      generalize ls[i] = x at hcj HX HX4
                      obtain ⟨XB, hXB⟩ : ∃ B : ByteArray, B = ⟨x.toArray⟩ := ⟨_, rfl⟩
                      rw [← hXB] at hcj
                      have HXB : Hid _ := hXB
                      have HSt : Hid (∀ p', lnP D i x p = some p' → rnP D ls ⟨nm, false, false, []⟩ i = some p') := by
                        intro p' h
                        rw [rnP_step D ls _ p i j HIJ.out HRn.out x HX.out, h]
                      clear hXB
                      by_cases hiD : (i : Int) = D
                      · have hDi : ((i : Int) == D) = true := by simpa using hiD
                        have HRn2 : Hid (rnP D ls ⟨nm, false, false, []⟩ i = some p) := HSt.out p (by unfold lnP stLn; rw [if_pos hiD])
                        clear hiD HSt
                        go_wp2
                        go_roundw
                        case rel => exact ⟨i + 1, i, p, ai, ar, ci, cr, pn, vs, rest, by omega, by omega, (by show _ = _; rfl), by go_num, by have := HIJ.out; omega, HPn2, HRn2, HNl, HRs, hOy, rpy, rzy⟩
                        case measure => simp [intOf] <;> omega
                      · have hDi : ((i : Int) == D) = false := by simpa using hiD
                        go_wp2_with fail
                        rw [HXB.out]
                        refine (message15_any x (by have := HX4.out; omega) _).mono ?_
                        rintro e w5 ⟨b5, hcase⟩
                        replace rpy := rpy.kept b5
                        replace rzy := rzy.kept b5
                        rcases hcase with ⟨hmb, v, rfl, hN⟩ | ⟨hmb, rfl⟩
                        · obtain ⟨t, ht⟩ : ∃ t : List Int, t = nIs (msgL x) := ⟨_, rfl⟩
                          obtain ⟨bb, hbb⟩ : ∃ b : Bool, b = decide (x.getD 0 0 = 45) := ⟨_, rfl⟩
                          rw [← ht] at hN
                          have HLp : Hid (∀ r, stLn D i bb t true p = r → lnP D i x p = r) := by
                            intro r hr
                            unfold lnP
                            rw [← ht, ← hbb, hmb]
                            exact hr
                          have hOt := hOy.fresh (p := ⟨3, 1, v, t.length, t.map (Value.int .i64)⟩) hN.1 hN.2
                          have hrt : RdI .i64 w5 v t := RdI.of_row hN.1
                          obtain ⟨av, cv, rfl, hv2, hv3, -, -⟩ := id hrt
                          unfold maxLen at hv3
                          have hrowI := hOt.rows ⟨4, 1, .slice ai pn ci, pn, p.ms.map fun m => Value.bool m.1⟩ (List.mem_cons_of_mem _ (List.mem_cons_self ..))
                          rw [← hbb]
                          have hpn4 : pn ≤ 4097 := by have := HMs.out; have := HIJ.out; omega
                          clear hN hmb ht hbb hcj
                          by_cases hgt : D < (i : Int)
                          · have hdg : decide (D < (i : Int)) = true := decide_eq_true hgt
                            have HRn2 : Hid (rnP D ls ⟨nm, false, false, []⟩ i = some ⟨p.name, p.ki, p.kr, p.ms ++ [(bb, t)]⟩) := HSt.out _ (HLp.out _ (by unfold stLn; rw [if_neg hiD, if_neg (by decide), if_pos hgt]))
                            have c3 : w5.cell? ⟨w1.heap.size, 3, none⟩ = some (.slice ai pn ci) := rpy.cell 3
                            clear hiD hgt b5 HSt HLp
                            go_wp2_with (at_builtin; go_must (refine wpList_append_E rfl _ _ 33 rfl 4 tb _ 1 1 Tryz.underlying33 htb hb0 hb1 hb2 rfl (by decide) _ pn (p.ms.map fun m => Value.bool m.1) rfl (hOt.swap.kept (growB _)) ⟨w5.heap.size, 0, none⟩ 1 1 [.bool bb] rfl rfl (news1 _ rfl) (by intro u hu; simp at hu; subst hu; rfl) (by unfold maxLen; omega) (by omega) ?_))
                            intro vi6 w6 hO6 hC6
                            have rp6 := (rpy.kept (growB (.cells #[.bool bb] 4))).chg hC6 (fun e => row_not_blk hrowI rpy (show (4 : TypeId) ≠ 36 by decide) e.symm)
                            have rz6 := (rzy.kept (growB (.cells #[.bool bb] 4))).chg hC6 (fun e => row_not_blk hrowI rzy (show (4 : TypeId) ≠ 36 by decide) e.symm)
                            have hri : RdC w6 vi6 ((p.ms.map fun m => Value.bool m.1) ++ [.bool bb]) := hO6.rdC rfl
                            obtain ⟨ai6, ci6, ev, -, -, -, -⟩ := id hri
                            obtain ⟨p1, hp1⟩ : ∃ n : Nat, n = pn + 1 := ⟨_, rfl⟩
                            have hle : (List.map (fun m : Bool × List Int => Value.bool m.1) p.ms ++ [Value.bool bb]).length = p1 := by rw [hp1, HPn2.out]; simp [Ptn.n]
                            rw [hle] at ev
                            subst ev
                            rw [← hp1] at hO6
                            have HP1 : Hid (p1 = pn + 1) := hp1
                            have c3b : w6.cell? ⟨w1.heap.size, 3, none⟩ = some (.slice ai pn ci) := rp6.cell 3
                            have f3b := rp6.free 3
                            have rp7 : BlkAt w1.heap.size 36 (ptC p (.slice ai6 p1 ci6) (.slice ar pn cr)) (w6.setCell ⟨w1.heap.size, 3, none⟩ (.slice ai6 p1 ci6)) := rp6.set 3 (.slice ai6 p1 ci6)
                            have hw7 := Wrote.set w1.heap.size 3 w6 (.slice ai6 p1 ci6)
                            have rz7 := rz6.wrote hw7 (by omega)
                            have hO7 := hO6.wrote hw7 (by omega) (fun q hq b hb e => by
                              have hty : q.ty ≠ 36 := by
                                rcases List.mem_cons.1 hq with rfl | hq
                                · exact (show (4 : TypeId) ≠ 36 by decide)
                                · rcases List.mem_cons.1 hq with rfl | hq
                                  · exact (show (3 : TypeId) ≠ 36 by decide)
                                  · rcases List.mem_cons.1 hq with rfl | hq
                                    · exact (show (63 : TypeId) ≠ 36 by decide)
                                    · rcases HRs.out.kinds q hq with h | h <;> rw [h] <;> decide
                              exact row_not_blk (hO6.rows q hq) rp6 hty (by rw [hb, e]))
                            have HSz6 : Hid (w6.heap.size = (w6.setCell ⟨w1.heap.size, 3, none⟩ (.slice ai6 p1 ci6)).heap.size) := by show _ = _; simp
                            have c4 : (w6.setCell ⟨w1.heap.size, 3, none⟩ (.slice ai6 p1 ci6)).cell? ⟨w1.heap.size, 4, none⟩ = some (.slice ar pn cr) := rp7.cell 4
                            have hO7' := hO7.third
                            have hrowR := hO7'.rows _ (List.mem_cons_self ..)
                            clear rpy rzy hOy hOt hC6 hO6 rp6 rz6 hri hw7 c3 hp1 hrowI hO7
                            go_wp2_with (first | (refine wpList_buildS rfl 34 _ rfl (.slice av t.length cv) rfl 63 w6.heap.size HSz6.out.symm (build_sl _ _ _ _) ?_; simp only [Act.put, List.setIfInBounds_toArray, List.set_cons_zero, List.set_cons_succ]) | (at_builtin; go_must (refine wpList_append_E rfl _ _ 34 rfl 63 ts _ 1 24 Tryz.underlying34 hts hs0 hs1 hs2 rfl (by decide) _ pn vs rfl (hO7'.kept (growB _)) ⟨w6.heap.size, 0, none⟩ 1 1 [.slice av t.length cv] rfl rfl (news1 _ HSz6.out) (by intro u hu; simp at hu; subst hu; rfl) (by unfold maxLen; omega) (by omega) ?_)))
                            intro vr8 w8 hO8 hC8
                            have rp8 := (rp7.kept (growB (.cells #[.slice av t.length cv] 63))).chg hC8 (fun e => row_not_blk hrowR rp7 (show (63 : TypeId) ≠ 36 by decide) e.symm)
                            have rz8 := (rz7.kept (growB (.cells #[.slice av t.length cv] 63))).chg hC8 (fun e => row_not_blk hrowR rz7 (show (63 : TypeId) ≠ 36 by decide) e.symm)
                            have hrr : RdC w8 vr8 (vs ++ [.slice av t.length cv]) := hO8.rdC rfl
                            obtain ⟨ar8, cr8, ev, -, -, -, -⟩ := id hrr
                            rw [show (vs ++ [Value.slice av t.length cv]).length = p1 by have := HRs.out.len; have := HPn2.out; have := HP1.out; simp; omega] at ev
                            subst ev
                            rw [← HP1.out] at hO8
                            have c4b : w8.cell? ⟨w1.heap.size, 4, none⟩ = some (.slice ar pn cr) := rp8.cell 4
                            have f4b := rp8.free 4
                            have rp9 : BlkAt w1.heap.size 36 (ptC p (.slice ai6 p1 ci6) (.slice ar8 p1 cr8)) (w8.setCell ⟨w1.heap.size, 4, none⟩ (.slice ar8 p1 cr8)) := rp8.set 4 (.slice ar8 p1 cr8)
                            have hw9 := Wrote.set w1.heap.size 4 w8 (.slice ar8 p1 cr8)
                            have RZ9 : Hid (BlkAt w.heap.size 36 (ptC zeP (.slice none 0 0) (.slice none 0 0)) (w8.setCell ⟨w1.heap.size, 4, none⟩ (.slice ar8 p1 cr8))) := rz8.wrote hw9 (by omega)
                            have RP9 : Hid (BlkAt w1.heap.size 36 (ptC ⟨p.name, p.ki, p.kr, p.ms ++ [(bb, t)]⟩ (.slice ai6 p1 ci6) (.slice ar8 p1 cr8)) (w8.setCell ⟨w1.heap.size, 4, none⟩ (.slice ar8 p1 cr8))) := rp9
                            have hO9 := hO8.wrote hw9 (by omega) (fun q hq b hb e => by
                              have hty : q.ty ≠ 36 := by
                                rcases List.mem_cons.1 hq with rfl | hq
                                · exact (show (63 : TypeId) ≠ 36 by decide)
                                · rcases List.mem_cons.1 hq with rfl | hq
                                  · exact (show (4 : TypeId) ≠ 36 by decide)
                                  · rcases List.mem_cons.1 hq with rfl | hq
                                    · exact (show (3 : TypeId) ≠ 36 by decide)
                                    · rcases HRs.out.kinds q hq with h | h <;> rw [h] <;> decide
                              exact row_not_blk (hO8.rows q hq) rp8 hty (by rw [hb, e]))
                            have HO9 : Hid (OwnG w (⟨4, 1, .slice ai6 p1 ci6, p1, (p.ms ++ [(bb, t)]).map fun m => Value.bool m.1⟩ :: ⟨63, 1, .slice ar8 p1 cr8, p1, vs ++ [.slice av t.length cv]⟩ :: ⟨3, 1, .slice av t.length cv, t.length, t.map (Value.int .i64)⟩ :: rest) (w8.setCell ⟨w1.heap.size, 4, none⟩ (.slice ar8 p1 cr8))) := by
                              show OwnG _ _ _
                              rw [List.map_append]
                              exact hO9.swap
                            have HR9 : Hid (Rst (⟨3, 1, .slice av t.length cv, t.length, t.map (Value.int .i64)⟩ :: rest) (vs ++ [.slice av t.length cv]) ⟨p.name, p.ki, p.kr, p.ms ++ [(bb, t)]⟩ LN) := HRs.out.next bb t (.slice av t.length cv)
                            have HPn9 : Hid (p1 = Ptn.n ⟨p.name, p.ki, p.kr, p.ms ++ [(bb, t)]⟩) := by
                              show _ = (p.ms ++ [(bb, t)]).length
                              rw [HP1.out, HPn2.out]
                              simp [Ptn.n]
                            clear rp7 rz7 hO7' hC8 hO8 rp8 rz8 hrr hw9 rp9 hO9 c4 c3b f3b hrowR
                            go_wp2
                            go_roundw
                            case rel => exact ⟨i + 1, i, _, ai6, ar8, ci6, cr8, p1, _, _, by omega, by omega, (by show _ = _; rfl), by go_num, by have := HP1.out; have := HIJ.out; omega, HPn9, HRn2, HNl, HR9, HO9.out, RP9.out, RZ9.out⟩
                            case measure => simp [intOf] <;> omega
                          · have hdg : decide (D < (i : Int)) = false := decide_eq_false hgt
                            have c1 : w5.cell? ⟨w1.heap.size, 1, none⟩ = some (.bool p.ki) := rpy.cell 1
                            have c2 : w5.cell? ⟨w1.heap.size, 2, none⟩ = some (.bool p.kr) := rpy.cell 2
                            obtain ⟨bad, hbad⟩ : ∃ b : Bool, b = decide (t.length ≠ 1 ∨ t.getD 0 0 ≠ 2 ∨ p.kr = true ∨ (bb = true ∧ p.ki = true)) := ⟨_, rfl⟩
                            have HBad : Hid _ := hbad
                            have HRt : Hid _ := hrt
                            clear hrowI hbad hrt
                            go_upto_region 33 with fail
                            go_cut [137] from 82 to 141 (fun v wx => v = .bool bad ∧ w5 = wx)
                            case first =>
                              by_cases ht1 : t.length = 1
                              · have htI : ((t.length : Int) != 1) = false := by rw [ht1]; rfl
                                have htI2 : (0 : Int) < (t.length : Int) := by omega
                                have HT1 : Hid (t.length = 1) := ht1
                                obtain ⟨a', c', ev, -, -, -, h5⟩ := id HRt.out
                                simp only [Value.slice.injEq] at ev
                                obtain ⟨rfl, -, -⟩ := ev
                                rcases h5 with h5 | ⟨bt, ot, rfl, hct⟩
                                · have := HT1.out
                                  rw [h5] at this
                                  cases this
                                have hc0 := hct 0 (by rw [HT1.out]; decide)
                                rw [Nat.add_zero] at hc0
                                obtain ⟨x0, hx0⟩ : ∃ y : Int, y = t.getD 0 0 := ⟨_, rfl⟩
                                rw [← hx0] at hc0
                                have HX0 : Hid (x0 = t.getD 0 0) := hx0
                                clear hct hx0 ht1
                                by_cases hx2' : x0 = 2
                                · have hxI : (x0 != 2) = false := by rw [hx2']; rfl
                                  have HX2 : Hid (t.getD 0 0 = 2) := by show _ = _; rw [← HX0.out]; exact hx2'
                                  clear hx2'
                                  rcases hkr : p.kr with _ | _
                                  · rcases hki : p.ki with _ | _
                                    · have HE : Hid (bad = false) := by
                                        show _ = _
                                        rw [HBad.out, HT1.out, HX2.out, hkr, hki]
                                        simp
                                      rw [hki] at c1
                                      rw [hkr] at c2
                                      clear hkr hki
                                      cases bb
                                      all_goals
                                        go_wp2
                                        go_meet
                                        exact ⟨by rw [HE.out], rfl⟩
                                    · have HE : Hid (bad = bb) := by
                                        show _ = _
                                        rw [HBad.out, HT1.out, HX2.out, hkr, hki]
                                        simp
                                      rw [hki] at c1
                                      rw [hkr] at c2
                                      clear hkr hki
                                      cases bb
                                      all_goals
                                        go_wp2
                                        go_meet
                                        exact ⟨by rw [HE.out], rfl⟩
                                  · have HE : Hid (bad = true) := by
                                      show _ = _
                                      rw [HBad.out, hkr]
                                      simp
                                    rw [hkr] at c2
                                    clear hkr
                                    go_wp2
                                    go_meet
                                    exact ⟨by rw [HE.out], rfl⟩
                                · have hxI : (x0 != 2) = true := by simpa using hx2'
                                  have HE : Hid (bad = true) := by
                                    show _ = _
                                    rw [HBad.out]
                                    exact decide_eq_true (.inr (.inl (by rw [← HX0.out]; exact hx2')))
                                  clear hx2'
                                  go_wp2
                                  go_meet
                                  exact ⟨by rw [HE.out], rfl⟩
                              · have htI : ((t.length : Int) != 1) = true := by
                                  have : ¬ (t.length : Int) = 1 := by omega
                                  simpa using this
                                have HE : Hid (bad = true) := by
                                  show _ = _
                                  rw [HBad.out]
                                  exact decide_eq_true (.inl (ht1))
                                clear ht1
                                go_wp2
                                go_meet
                                exact ⟨by rw [HE.out], rfl⟩
                            case rest =>
                            obtain ⟨rfl, rfl⟩ := hcut
                            cases bad
                            · have hnb : ¬ (t.length ≠ 1 ∨ t.getD 0 0 ≠ 2 ∨ p.kr = true ∨ (bb = true ∧ p.ki = true)) := of_decide_eq_false HBad.out.symm
                              have hLs : lnP D i x p = some (if bb = true then ⟨p.name, true, p.kr, p.ms⟩ else ⟨p.name, p.ki, true, p.ms⟩) := HLp.out _ (by
                                unfold stLn
                                rw [if_neg hiD, if_neg (by decide), if_neg (by omega), if_neg hnb]
                                cases bb <;> rfl)
                              have hOk := hOt.tail
                              clear HBad hnb
                              cases bb
                              · have HRn2 : Hid (rnP D ls ⟨nm, false, false, []⟩ i = some ⟨p.name, p.ki, true, p.ms⟩) := HSt.out _ hLs
                                have fK := rpy.free 2
                                have hwK := Wrote.set w1.heap.size 2 w5 (.bool true)
                                have RPK : Hid (BlkAt w1.heap.size 36 (ptC ⟨p.name, p.ki, true, p.ms⟩ (.slice ai pn ci) (.slice ar pn cr)) (w5.setCell ⟨w1.heap.size, 2, none⟩ (.bool true))) := rpy.set 2 (.bool true)
                                have RZK : Hid (BlkAt w.heap.size 36 (ptC zeP (.slice none 0 0) (.slice none 0 0)) (w5.setCell ⟨w1.heap.size, 2, none⟩ (.bool true))) := rzy.wrote hwK (by omega)
                                have HOK : Hid (OwnG w (⟨4, 1, .slice ai pn ci, pn, p.ms.map fun m => Value.bool m.1⟩ :: ⟨63, 1, .slice ar pn cr, pn, vs⟩ :: rest) (w5.setCell ⟨w1.heap.size, 2, none⟩ (.bool true))) := hOk.wrote hwK (by omega) (HRs.out.far hOk rpy)
                                have HRK : Hid (Rst rest vs ⟨p.name, p.ki, true, p.ms⟩ LN) := ⟨HRs.out.len, HRs.out.toks, HRs.out.lines, HRs.out.kinds⟩
                                have HPK : Hid (pn = Ptn.n ⟨p.name, p.ki, true, p.ms⟩) := HPn2
                                clear hwK hOk hgt hiD HLp HSt hLs
                                go_wp2
                                go_roundw
                                case rel => exact ⟨i + 1, i, _, ai, ar, ci, cr, pn, vs, rest, by omega, by omega, (by show _ = _; rfl), by go_num, by have := HIJ.out; omega, HPK, HRn2, HNl, HRK, HOK.out, RPK.out, RZK.out⟩
                                case measure => simp [intOf] <;> omega
                              · have HRn2 : Hid (rnP D ls ⟨nm, false, false, []⟩ i = some ⟨p.name, true, p.kr, p.ms⟩) := HSt.out _ hLs
                                have fK := rpy.free 1
                                have hwK := Wrote.set w1.heap.size 1 w5 (.bool true)
                                have RPK : Hid (BlkAt w1.heap.size 36 (ptC ⟨p.name, true, p.kr, p.ms⟩ (.slice ai pn ci) (.slice ar pn cr)) (w5.setCell ⟨w1.heap.size, 1, none⟩ (.bool true))) := rpy.set 1 (.bool true)
                                have RZK : Hid (BlkAt w.heap.size 36 (ptC zeP (.slice none 0 0) (.slice none 0 0)) (w5.setCell ⟨w1.heap.size, 1, none⟩ (.bool true))) := rzy.wrote hwK (by omega)
                                have HOK : Hid (OwnG w (⟨4, 1, .slice ai pn ci, pn, p.ms.map fun m => Value.bool m.1⟩ :: ⟨63, 1, .slice ar pn cr, pn, vs⟩ :: rest) (w5.setCell ⟨w1.heap.size, 1, none⟩ (.bool true))) := hOk.wrote hwK (by omega) (HRs.out.far hOk rpy)
                                have HRK : Hid (Rst rest vs ⟨p.name, true, p.kr, p.ms⟩ LN) := ⟨HRs.out.len, HRs.out.toks, HRs.out.lines, HRs.out.kinds⟩
                                have HPK : Hid (pn = Ptn.n ⟨p.name, true, p.kr, p.ms⟩) := HPn2
                                clear hwK hOk hgt hiD HLp HSt hLs
                                go_wp2
                                go_roundw
                                case rel => exact ⟨i + 1, i, _, ai, ar, ci, cr, pn, vs, rest, by omega, by omega, (by show _ = _; rfl), by go_num, by have := HIJ.out; omega, HPK, HRn2, HNl, HRK, HOK.out, RPK.out, RZK.out⟩
                                case measure => simp [intOf] <;> omega
                            · have HA : Hid (psA s = (zeP, 20)) := HNone.out i j p x HIJ.out hlt HRn.out HX.out (HLp.out _ (by unfold stLn; rw [if_neg hiD, if_neg (by decide), if_neg (by omega), if_pos (of_decide_eq_true HBad.out.symm)]))
                              clear hgt hiD HLp HSt HBad
                              go_wp2_with (first | refine wpList_buildB rfl 36 #[] rfl #[] (by simp) _ (buildPt _) ?_ | (refine wpList_store_part rfl 36 _ _ rfl rfl (ptC zeP (.slice none 0 0) (.slice none 0 0)) rfl [] (ptC zeP (.slice none 0 0) (.slice none 0 0)) [] (ptC zeP (.slice none 0 0) (.slice none 0 0)) rzy (whole15 _) (whole15 _) rfl rfl (ptInfo _ _ _) (ptC_all _ _ _ _ _ _ _) ?_; intro w7 r7 hw7))
                              refine bodyPost_blk2 rfl rfl rfl rfl r7 Tryz.underlying36 rfl (ptInfo _ _ _) ?_
                              exact refuse15 HA.out (hw7.below _ _ (Nat.le_refl _) hOt.below)
                        · have HA : Hid (psA s = (zeP, 20)) := HNone.out i j p x HIJ.out hlt HRn.out HX.out (by unfold lnP stLn; rw [if_neg hiD, if_pos hmb])
                          replace hOy := hOy.kept b5
                          clear hmb hiD b5 hcj
                          go_wp2_with (first | refine wpList_buildB rfl 36 #[] rfl #[] (by simp) _ (buildPt _) ?_ | (refine wpList_store_part rfl 36 _ _ rfl rfl (ptC zeP (.slice none 0 0) (.slice none 0 0)) rfl [] (ptC zeP (.slice none 0 0) (.slice none 0 0)) [] (ptC zeP (.slice none 0 0) (.slice none 0 0)) rzy (whole15 _) (whole15 _) rfl rfl (ptInfo _ _ _) (ptC_all _ _ _ _ _ _ _) ?_; intro w7 r7 hw7))
                          refine bodyPost_blk2 rfl rfl rfl rfl r7 Tryz.underlying36 rfl (ptInfo _ _ _) ?_
                          exact refuse15 HA.out (hw7.below _ _ (Nat.le_refl _) hOy.below)
                    · have hd : decide ((i : Int) < (m : Int)) = false := decide_eq_false (by omega)
                      have hiI : (m : Int) ≤ (i : Int) := by omega
                      have HRf : Hid (rnP D ls ⟨nm, false, false, []⟩ (m - 1) = some p) := by
                        show _ = _
                        rw [show m - 1 = j by have := HIJ.out; omega]
                        exact HRn.out
                      have HPa : Hid (psA s = if wrB p then (p, 0) else (zeP, 20)) := HPs2.out _ HRf.out
                      have HRd : Hid (PtR wr p (.slice ai pn ci) (.slice ar pn cr)) := by
                        refine ⟨?_, vs, ?_, HRs.out.len, fun k hk => ?_⟩
                        · exact hOy.rdC rfl
                        · exact RdC.of_own (hOy.rows ⟨63, 1, .slice ar pn cr, pn, vs⟩ (List.mem_cons_of_mem _ (List.mem_cons_self ..)))
                        · exact RdI.of_row (hOy.rows _ (List.mem_cons_of_mem _ (List.mem_cons_of_mem _ (HRs.out.toks k hk))))
                      go_wp2_with (refine wpList_load_part rfl 36 _ rfl rfl [] (ptC p (.slice ai pn ci) (.slice ar pn cr)) [] rpy (whole15 _) rfl Tryz.underlying36 rfl (ptInfo _ _ _) ?_)
                      refine (written15_any p (by have := HNl.out; omega) _ _ _ rfl _ HRd.out).mono ?_
                      rintro e w5 ⟨rfl, b5⟩
                      replace rpy := rpy.kept b5
                      replace rzy := rzy.kept b5
                      replace hOy := hOy.kept b5
                      have HRd5 : Hid (PtR w5 p (.slice ai pn ci) (.slice ar pn cr)) := HRd.out.kept b5
                      clear b5 HRd
                      by_cases hw : wrB p = true
                      · have HA : Hid (psA s = (p, 0)) := by show _ = _; rw [HPa.out, if_pos hw]
                        rw [hw]
                        clear hw
                        go_wp2_with (first | refine wpList_load_part rfl 36 _ rfl rfl [] (ptC p (.slice ai pn ci) (.slice ar pn cr)) [] rpy (whole15 _) rfl Tryz.underlying36 rfl (ptInfo _ _ _) ?_ | (refine wpList_store_part rfl 36 _ _ rfl rfl (ptC p (.slice ai pn ci) (.slice ar pn cr)) rfl [] (ptC zeP (.slice none 0 0) (.slice none 0 0)) [] (ptC p (.slice ai pn ci) (.slice ar pn cr)) rzy (whole15 _) (whole15 _) rfl rfl (ptInfo _ _ _) (ptC_all _ _ _ _ _ _ _) ?_; intro w7 r7 hw7))
                        refine bodyPost_blk2 rfl rfl rfl rfl r7 Tryz.underlying36 rfl (ptInfo _ _ _) ?_
                        refine ⟨.slice ai pn ci, .slice ar pn cr, ?_, ?_, hw7.below _ _ (Nat.le_refl _) hOy.below⟩
                        · rw [HA.out]
                          rfl
                        · rw [HA.out]
                          have hO7 := hOy.wrote hw7 (Nat.le_refl _) (fun q hq b hb e => by
                            have hty : q.ty ≠ 36 := by
                              rcases List.mem_cons.1 hq with rfl | hq
                              · exact (show (4 : TypeId) ≠ 36 by decide)
                              · rcases List.mem_cons.1 hq with rfl | hq
                                · exact (show (63 : TypeId) ≠ 36 by decide)
                                · rcases HRs.out.kinds q hq with h | h <;> rw [h] <;> decide
                            exact row_not_blk (hOy.rows q hq) rzy hty (by rw [hb, e]))
                          refine ⟨?_, vs, ?_, HRs.out.len, fun k hk => ?_⟩
                          · exact hO7.rdC rfl
                          · exact RdC.of_own (hO7.rows ⟨63, 1, .slice ar pn cr, pn, vs⟩ (List.mem_cons_of_mem _ (List.mem_cons_self ..)))
                          · exact RdI.of_row (hO7.rows _ (List.mem_cons_of_mem _ (List.mem_cons_of_mem _ (HRs.out.toks k hk))))
                      · have hf : wrB p = false := by simpa using hw
                        have HA : Hid (psA s = (zeP, 20)) := by show _ = _; rw [HPa.out, if_neg hw]
                        rw [hf]
                        clear hw hf
                        go_wp2_with (first | refine wpList_buildB rfl 36 #[] rfl #[] (by simp) _ (buildPt _) ?_ | (refine wpList_store_part rfl 36 _ _ rfl rfl (ptC zeP (.slice none 0 0) (.slice none 0 0)) rfl [] (ptC zeP (.slice none 0 0) (.slice none 0 0)) [] (ptC zeP (.slice none 0 0) (.slice none 0 0)) rzy (whole15 _) (whole15 _) rfl rfl (ptInfo _ _ _) (ptC_all _ _ _ _ _ _ _) ?_; intro w7 r7 hw7))
                        refine bodyPost_blk2 rfl rfl rfl rfl r7 Tryz.underlying36 rfl (ptInfo _ _ _) ?_
                        exact refuse15 HA.out (hw7.below _ _ (Nat.le_refl _) hOy.below)

          · have HA : Hid (psA s = (zeP, 20)) := by
              show _ = _
              unfold psA
              rw [if_neg (by have := HLs.out; omega), if_pos (.inr (by rw [← HI3.out, HF0.out, HFk.out, ← HQb.out]; exact h58))]
            clear h58
            have q3 : ((qb.toNat : Int) == 58) = false := q1
            have q4 : ¬ (qb.toNat : Int) = 58 := q2
            clear q1 q2
            go_wp2_with fail
            refine wpG_begin (by kernel_rfl) ?_
            refine wpG_take (i := 0) (oi := { dst := some 39, op := Op.move (Operand.tmp 5), type := 54, pos := "ref.go:148", after := #[], guard := none }) (v := ?_) rfl (by kernel_rfl) (by kernel_rfl) (by kernel_rfl) (by rfl) ?_ ?_
            rotate_left
            · intro W hW; first | (go_simp; done) | (go_simp; with_reducible rfl)
            try simp only [Act.put, List.setIfInBounds_toArray, List.set_cons_zero, List.set_cons_succ]
            refine wpG_take (i := 1) (oi := { dst := some 40, op := Op.call { callee := Callee.builtin Builtin.len, args := #[Operand.tmp 39], argTypes := #[54] }, type := 3, pos := "ref.go:148", after := #[{ on := 0, ground := Ground.data }], guard := none }) (v := ?_) rfl (by kernel_rfl) (by kernel_rfl) (by kernel_rfl) (by rfl) ?_ ?_
            rotate_left
            · intro W hW; first | (go_simp; done) | (go_simp; with_reducible rfl)
            try simp only [Act.put, List.setIfInBounds_toArray, List.set_cons_zero, List.set_cons_succ]
            refine wpG_take (i := 2) (oi := { dst := some 41, op := Op.binOp BinOp.eql 3 (Operand.tmp 40) (Operand.const (Value.int IntKind.i64 0)) 3, type := 4, pos := "ref.go:148", after := #[{ on := 1, ground := Ground.data }], guard := none }) (v := ?_) rfl (by kernel_rfl) (by kernel_rfl) (by kernel_rfl) (by rfl) ?_ ?_
            rotate_left
            · intro W hW; first | (go_simp; done) | (go_simp; with_reducible rfl)
            try simp only [Act.put, List.setIfInBounds_toArray, List.set_cons_zero, List.set_cons_succ]
            refine wpG_take (i := 3) (oi := { dst := some 42, op := Op.move (Operand.tmp 41), type := 4, pos := "ref.go:148", after := #[{ on := 2, ground := Ground.data }], guard := none }) (v := ?_) rfl (by kernel_rfl) (by kernel_rfl) (by kernel_rfl) (by rfl) ?_ ?_
            rotate_left
            · intro W hW; first | (go_simp; done) | (go_simp; with_reducible rfl)
            try simp only [Act.put, List.setIfInBounds_toArray, List.set_cons_zero, List.set_cons_succ]
            refine wpG_take (i := 4) (oi := { dst := some 43, op := Op.move (Operand.tmp 5), type := 54, pos := "ref.go:148", after := #[{ on := 3, ground := Ground.guard }], guard := some (3, false) }) (v := ?_) rfl (by kernel_rfl) (by kernel_rfl) (by kernel_rfl) (by rfl) ?_ ?_
            rotate_left
            · intro W hW; first | (go_simp; done) | (go_simp; with_reducible rfl)
            try simp only [Act.put, List.setIfInBounds_toArray, List.set_cons_zero, List.set_cons_succ]
            refine wpG_take (i := 5) (oi := { dst := some 44, op := Op.indexAddr 54 (Operand.tmp 43) (Operand.const (Value.int IntKind.i64 0)), type := 0, pos := "ref.go:148", after := #[{ on := 4, ground := Ground.data }, { on := 3, ground := Ground.guard }], guard := some (3, false) }) (v := ?_) rfl (by kernel_rfl) (by kernel_rfl) (by kernel_rfl) (by rfl) ?_ ?_
            rotate_left
            · intro W hW; first | (go_simp; done) | (go_simp; with_reducible rfl)
            try simp only [Act.put, List.setIfInBounds_toArray, List.set_cons_zero, List.set_cons_succ]
            refine wpG_take (i := 6) (oi := { dst := some 45, op := Op.load 9 (Operand.tmp 44), type := 9, pos := "ref.go:148", after := #[{ on := 5, ground := Ground.data }, { on := 3, ground := Ground.guard }], guard := some (3, false) }) (v := ?_) rfl (by kernel_rfl) (by kernel_rfl) (by kernel_rfl) (by rfl) ?_ ?_
            rotate_left
            · intro W hW; have hcW := cellDK15 hc0 hW; first | (go_simp; done) | (go_simp; with_reducible rfl)
            try simp only [Act.put, List.setIfInBounds_toArray, List.set_cons_zero, List.set_cons_succ]
            refine wpG_take (i := 7) (oi := { dst := some 46, op := Op.move (Operand.tmp 5), type := 54, pos := "ref.go:148", after := #[{ on := 3, ground := Ground.guard }], guard := some (3, false) }) (v := ?_) rfl (by kernel_rfl) (by kernel_rfl) (by kernel_rfl) (by rfl) ?_ ?_
            rotate_left
            · intro W hW; first | (go_simp; done) | (go_simp; with_reducible rfl)
            try simp only [Act.put, List.setIfInBounds_toArray, List.set_cons_zero, List.set_cons_succ]
            refine wpG_take (i := 8) (oi := { dst := some 47, op := Op.indexAddr 54 (Operand.tmp 46) (Operand.const (Value.int IntKind.i64 0)), type := 0, pos := "ref.go:148", after := #[{ on := 7, ground := Ground.data }, { on := 3, ground := Ground.guard }], guard := some (3, false) }) (v := ?_) rfl (by kernel_rfl) (by kernel_rfl) (by kernel_rfl) (by rfl) ?_ ?_
            rotate_left
            · intro W hW; first | (go_simp; done) | (go_simp; with_reducible rfl)
            try simp only [Act.put, List.setIfInBounds_toArray, List.set_cons_zero, List.set_cons_succ]
            refine wpG_take (i := 9) (oi := { dst := some 48, op := Op.load 9 (Operand.tmp 47), type := 9, pos := "ref.go:148", after := #[{ on := 8, ground := Ground.data }, { on := 3, ground := Ground.guard }], guard := some (3, false) }) (v := ?_) rfl (by kernel_rfl) (by kernel_rfl) (by kernel_rfl) (by rfl) ?_ ?_
            rotate_left
            · intro W hW; have hcW := cellDK15 hc0 hW; first | (go_simp; done) | (go_simp; with_reducible rfl)
            try simp only [Act.put, List.setIfInBounds_toArray, List.set_cons_zero, List.set_cons_succ]
            refine wpG_take (i := 10) (oi := { dst := some 49, op := Op.call { callee := Callee.builtin Builtin.len, args := #[Operand.tmp 48], argTypes := #[9] }, type := 3, pos := "ref.go:148", after := #[{ on := 9, ground := Ground.data }, { on := 3, ground := Ground.guard }], guard := some (3, false) }) (v := ?_) rfl (by kernel_rfl) (by kernel_rfl) (by kernel_rfl) (by rfl) ?_ ?_
            rotate_left
            · intro W hW; first | (go_simp; done) | (go_simp; with_reducible rfl)
            try simp only [Act.put, List.setIfInBounds_toArray, List.set_cons_zero, List.set_cons_succ]
            refine wpG_take (i := 11) (oi := { dst := some 50, op := Op.binOp BinOp.sub 3 (Operand.tmp 49) (Operand.const (Value.int IntKind.i64 1)) 3, type := 3, pos := "ref.go:148", after := #[{ on := 10, ground := Ground.data }, { on := 3, ground := Ground.guard }], guard := some (3, false) }) (v := ?_) rfl (by kernel_rfl) (by kernel_rfl) (by kernel_rfl) (by rfl) ?_ ?_
            rotate_left
            · intro W hW; first | (go_simp; done) | (go_simp; with_reducible rfl)
            try simp only [Act.put, List.setIfInBounds_toArray, List.set_cons_zero, List.set_cons_succ]
            refine wpG_take (i := 12) (oi := { dst := some 51, op := Op.index 9 (Operand.tmp 45) (Operand.tmp 50), type := 5, pos := "ref.go:148", after := #[{ on := 6, ground := Ground.data }, { on := 11, ground := Ground.data }, { on := 3, ground := Ground.guard }], guard := some (3, false) }) (v := ?_) rfl (by kernel_rfl) (by kernel_rfl) (by kernel_rfl) (by rfl) ?_ ?_
            rotate_left
            · intro W hW; first | (go_simp; done) | (go_simp; with_reducible rfl)
            try simp only [Act.put, List.setIfInBounds_toArray, List.set_cons_zero, List.set_cons_succ]
            refine wpG_take (i := 13) (oi := { dst := some 52, op := Op.binOp BinOp.neq 5 (Operand.tmp 51) (Operand.const (Value.int IntKind.u8 58)) 5, type := 4, pos := "ref.go:148", after := #[{ on := 12, ground := Ground.data }, { on := 3, ground := Ground.guard }], guard := some (3, false) }) (v := ?_) rfl (by kernel_rfl) (by kernel_rfl) (by kernel_rfl) (by rfl) ?_ ?_
            rotate_left
            · intro W hW; first | (go_simp; done) | (go_simp; with_reducible rfl)
            try simp only [Act.put, List.setIfInBounds_toArray, List.set_cons_zero, List.set_cons_succ]
            refine wpG_take (i := 14) (oi := { dst := some 53, op := Op.pick (Operand.tmp 42) (Operand.const (Value.bool true)) (Operand.tmp 52), type := 4, pos := "ref.go:148", after := #[{ on := 3, ground := Ground.data }, { on := 13, ground := Ground.data }], guard := none }) (v := ?_) rfl (by kernel_rfl) (by kernel_rfl) (by kernel_rfl) (by rfl) ?_ ?_
            rotate_left
            · intro W hW; first | (go_simp; done) | (go_simp; with_reducible rfl)
            try simp only [Act.put, List.setIfInBounds_toArray, List.set_cons_zero, List.set_cons_succ]
            refine wpG_done (by kernel_rfl) ?_
            replace rzx := rzx.drew
            replace rpx := rpx.drew
            replace hOx := hOx.drew
            go_wp2_with (first | refine wpList_load_part rfl 36 _ rfl rfl [] (ptC zeP (.slice none 0 0) (.slice none 0 0)) [] rpx (whole15 _) rfl Tryz.underlying36 rfl (ptInfo _ _ _) ?_ | (refine wpList_store_part rfl 36 _ _ rfl rfl (ptC zeP (.slice none 0 0) (.slice none 0 0)) rfl [] (ptC zeP (.slice none 0 0) (.slice none 0 0)) [] (ptC zeP (.slice none 0 0) (.slice none 0 0)) rzx (whole15 _) (whole15 _) rfl rfl (ptInfo _ _ _) (ptC_all _ _ _ _ _ _ _) ?_; intro w7 r7 hw7))
            refine bodyPost_blk2 rfl rfl rfl rfl r7 Tryz.underlying36 rfl (ptInfo _ _ _) ?_
            exact refuse15 HA.out (hw7.below _ _ (Nat.le_refl _) hOx.below)
end Go.Proofs.YtpoibhhijidobabGreatDoor
