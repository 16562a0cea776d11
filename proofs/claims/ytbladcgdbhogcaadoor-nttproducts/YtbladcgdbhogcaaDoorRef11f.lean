/- What the document's own product of polynomials is, term by term: a contract of the reference of layer 11, sixth part. -/
import Derived.Test.YtbladcgdbhogcaaDoorRef11e
namespace Go.Proofs.YtbladcgdbhogcaaDoor
open Go.ChangeShapes Go.WideShapes Go.ChangeAt Go.RowKit
set_option linter.unusedSimpArgs false
set_option linter.unusedVariables false

theorem gI_put (o : Nat → FZ) (m : Nat) (c : FZ) (v : Nat) (hv : v = (o m + c).val) : (gI (fzF o)).set m ((v : Nat) : Int) = gI (fzF (putZ o m c)) := by
  rw [gI_set]
  refine gI_congr fun k _ => ?_
  simp only [fzF, putZ]
  by_cases h : k = m
  · rw [if_pos h, if_pos h, hv]
  · rw [if_neg h, if_neg h]
theorem put_facts (x c : FZ) : ∃ s v : Nat, v = (x + c).val ∧ IntKind.i64.wrap (((x.val : Nat) : Int) + ((c.val : Nat) : Int)) = (s : Int) ∧ ((s : Nat) : Int).tmod 3329 = (v : Int) ∧ IntKind.i64.wrap (v : Int) = (v : Int) := by
  have h1 := x.isLt
  have h2 := c.isLt
  have h3 := fz_val_add x c
  refine ⟨x.val + c.val, _, rfl, ?_, ?_, ?_⟩
  · exact IntWalk.i64_in _ (by omega)
  · rw [Int.tmod_eq_emod_of_nonneg (by omega), h3]
    omega
  · exact IntWalk.i64_in _ (by omega)
theorem turn_facts (x c : FZ) : ∃ s t v : Nat, v = (x + -c).val ∧ IntKind.i64.wrap (((x.val : Nat) : Int) + 3329) = (s : Int) ∧ IntKind.i64.wrap ((s : Int) - ((c.val : Nat) : Int)) = (t : Int) ∧ ((t : Nat) : Int).tmod 3329 = (v : Int) ∧ IntKind.i64.wrap (v : Int) = (v : Int) := by
  have h1 := x.isLt
  have h2 := c.isLt
  have h3 : (x + -c).val = (x.val + 3329 - c.val) % 3329 := by
    rw [← fz_val_sub, show x + -c = x - c by grind -lia]
  refine ⟨x.val + 3329, x.val + 3329 - c.val, _, rfl, ?_, ?_, ?_, ?_⟩
  · exact IntWalk.i64_in _ (by omega)
  · rw [show (((x.val + 3329 : Nat) : Int) - ((c.val : Nat) : Int)) = ((x.val + 3329 - c.val : Nat) : Int) by omega]
    exact IntWalk.i64_in _ (by omega)
  · rw [Int.tmod_eq_emod_of_nonneg (by omega), h3]
    omega
  · exact IntWalk.i64_in _ (by omega)

set_option maxRecDepth 100000 in
set_option maxHeartbeats 4000000 in
theorem product11_any (A B : Array Value) (F G : Nat → Int) (hF : Po F) (hG : Po G) (hA : A = ((gI F).map (Value.int .i64)).toArray) (hB : B = ((gI G).map (Value.int .i64)).toArray) (w : World) :
    Calls Tryd.prog 23 #[.agg A, .agg B] w fun e w' => e = .returned (poV (pd (rF F) (rF G))) ∧ Below w.heap.size w w' := by
  have HF : Hid (Po F) := hF
  have HG : Hid (Po G) := hG
  clear hF hG
  go_enter Tryd.func23, Tryd.ntmps23
  go_wp2_with (refine wpList_box_row (k := .i64) rfl 22 _ rfl (gI F) (by rw [← hA]; rfl) (gI_ne _) (poMax _) ?_)
  intro w1 ra bn sn
  rw [gI_length] at ra
  have hbw := bn
  have n1 : w.heap.size < w1.heap.size := by have := sn.out; omega
  clear bn sn hA
  go_wp2_with (refine wpList_box_row (k := .i64) rfl 22 _ rfl (gI G) (by rw [← hB]; rfl) (gI_ne _) (poMax _) ?_)
  intro w2 rb bn sn
  rw [gI_length] at rb
  replace ra := ra.kept bn
  replace hbw := stepB hbw bn
  have n2 : w1.heap.size < w2.heap.size := by have := sn.out; omega
  clear bn sn hB
  go_wp2_with (refine wpList_alloc_row (k := .i64) rfl 22 rfl (gI fun _ => 0) (alloc_po _) (gI_ne _) (poMax _) ?_)
  intro w3 rz bn sn
  rw [gI_length] at rz
  replace ra := ra.kept bn
  replace rb := rb.kept bn
  replace hbw := stepB hbw bn
  have n3 : w2.heap.size < w3.heap.size := by have := sn.out; omega
  clear bn sn
  go_wp2_with (refine wpList_load_row rfl 22 _ rfl rfl ra _ Tryd.underlying22 rfl (poInfo _) ?_)
  refine (clean11_any _ F HF.out rfl _).mono ?_
  rintro e w4 ⟨rfl, bn⟩
  replace ra := ra.kept bn
  replace rb := rb.kept bn
  replace rz := rz.kept bn
  replace hbw := stepB hbw bn
  have n4 := bn.size
  clear bn
  go_wp2_with (refine wpList_store_row rfl 22 _ _ rfl (gI (fzF (rF F))) rfl rfl ra (by rw [gI_length, gI_length]) (poInfo _) ?_)
  intro w5 ra5 hw5
  replace rb := rb.wrote hw5 (by omega)
  replace rz := rz.wrote hw5 (by omega)
  replace hbw := hw5.below _ _ (Nat.le_refl _) hbw
  have n5 : w4.heap.size ≤ w5.heap.size := Nat.le_of_eq hw5.size.symm
  clear ra hw5
  go_wp2_with (refine wpList_load_row rfl 22 _ rfl rfl rb _ Tryd.underlying22 rfl (poInfo _) ?_)
  refine (clean11_any _ G HG.out rfl _).mono ?_
  rintro e w6 ⟨rfl, bn⟩
  replace ra5 := ra5.kept bn
  replace rb := rb.kept bn
  replace rz := rz.kept bn
  replace hbw := stepB hbw bn
  have n6 := bn.size
  clear bn
  go_wp2_with (refine wpList_store_row rfl 22 _ _ rfl (gI (fzF (rF G))) rfl rfl rb (by rw [gI_length, gI_length]) (poInfo _) ?_)
  intro w7 rb7 hw7
  replace ra5 := ra5.wrote hw7 (by omega)
  replace rz := rz.wrote hw7 (by omega)
  replace hbw := hw7.below _ _ (by omega) hbw
  have n7 : w6.heap.size ≤ w7.heap.size := Nat.le_of_eq hw7.size.symm
  clear rb hw7
  obtain ⟨a, ha⟩ : ∃ a : Nat → FZ, a = rF F := ⟨_, rfl⟩
  obtain ⟨b, hb⟩ : ∃ b : Nat → FZ, b = rF G := ⟨_, rfl⟩
  rw [← ha] at ra5
  rw [← hb] at rb7
  have HA : Hid _ := ha
  have HB : Hid _ := hb
  clear ha hb
  go_wp2_with (refine wpList_alloc_row (k := .i64) rfl 22 rfl (gI fun _ => 0) (alloc_po _) (gI_ne _) (poMax _) ?_)
  intro w8 ro bn sn
  rw [gI_length] at ro
  replace ra5 := ra5.kept bn
  replace rb7 := rb7.kept bn
  replace rz := rz.kept bn
  replace hbw := stepB hbw bn
  have n8 : w7.heap.size < w8.heap.size := by have := sn.out; omega
  clear bn sn
  have h00 : gI (fun _ => 0) = gI (fzF fun _ => 0) := rfl
  rw [h00] at ro
  clear h00
  go_wp2
  go_loopw [6] (fun iv wx => ∃ (i : Nat) (o : Nat → FZ), i ≤ 256 ∧ iv = .int .i64 (i : Int) ∧ Hid (Pp a b i 0 o) ∧ RowAt .i64 22 w.heap.size 256 (gI (fzF a)) wx ∧ RowAt .i64 22 w1.heap.size 256 (gI (fzF b)) wx ∧ RowAt .i64 22 w2.heap.size 256 (gI fun _ => 0) wx ∧ RowAt .i64 22 w7.heap.size 256 (gI (fzF o)) wx ∧ Below w.heap.size w wx) (fun iv _ => 256 - (intOf iv).toNat)
  case atStart => exact ⟨0, fun _ => 0, by omega, rfl, Pp.start a b _ (fun _ _ => rfl), ra5, rb7, rz, ro, hbw⟩
  case round =>
    obtain ⟨i, o, hi, rfl, HP, ra, rb, rz', ro', hbx⟩ := hrel
    clear ra5 rb7 rz ro hbw
    by_cases hlt : i < 256
    · have hd : decide ((i : Int) < 256) = true := decide_eq_true (by omega)
      have hiI : (i : Int) < 256 := by omega
      go_wp2
      go_loopw [7] (fun jv wx => ∃ (j : Nat) (o : Nat → FZ), j ≤ 256 ∧ jv = .int .i64 (j : Int) ∧ Hid (Pp a b i j o) ∧ RowAt .i64 22 w.heap.size 256 (gI (fzF a)) wx ∧ RowAt .i64 22 w1.heap.size 256 (gI (fzF b)) wx ∧ RowAt .i64 22 w2.heap.size 256 (gI fun _ => 0) wx ∧ RowAt .i64 22 w7.heap.size 256 (gI (fzF o)) wx ∧ Below w.heap.size w wx) (fun jv _ => 256 - (intOf jv).toNat)
      case atStart => exact ⟨0, o, by omega, rfl, HP, ra, rb, rz', ro', hbx⟩
      case round =>
        obtain ⟨j, o2, hj, rfl, HP2, ra2, rb2, rz2, ro2, hbx2⟩ := hrel
        clear ra rb rz' ro' hbx HP
        by_cases hltj : j < 256
        · have hdj : decide ((j : Int) < 256) = true := decide_eq_true (by omega)
          have hjI : (j : Int) < 256 := by omega
          have ca := ra2.cell (j := i) (by rw [gI_length]; exact hlt)
          have cb := rb2.cell (j := j) (by rw [gI_length]; exact hltj)
          rw [gI_get _ hlt] at ca
          rw [gI_get _ hltj] at cb
          simp only [fzF] at ca cb
          obtain ⟨m, nv, hnv, y1, y2, y3⟩ := mul_facts (a i) (b j)
          obtain ⟨c, hc⟩ : ∃ c : FZ, c = a i * b j := ⟨_, rfl⟩
          rw [← hc] at hnv
          have HN : Hid (nv = c.val) := hnv
          have HCc : Hid _ := hc
          generalize (a i).val = A0 at ca y1
          generalize (b j).val = B0 at cb y1
          clear hnv hc
          go_wp2_with fail
          refine wpG_begin (by kernel_rfl) ?_
          refine wpG_take (i := 0) (oi := { dst := some 21, op := Op.move (Operand.tmp 6), type := 3, pos := "ref.go:90", after := #[], guard := none }) (v := ?_) rfl (by kernel_rfl) (by kernel_rfl) (by kernel_rfl) (by rfl) ?_ ?_
          rotate_left
          · intro W hW; first | (go_simp; done) | (go_simp; with_reducible rfl)
          try simp only [Act.put, List.setIfInBounds_toArray, List.set_cons_zero, List.set_cons_succ]
          refine wpG_take (i := 1) (oi := { dst := some 22, op := Op.indexAddr 22 (Operand.tmp 2) (Operand.tmp 21), type := 0, pos := "ref.go:90", after := #[{ on := 0, ground := Ground.data }], guard := none }) (v := ?_) rfl (by kernel_rfl) (by kernel_rfl) (by kernel_rfl) (by rfl) ?_ ?_
          rotate_left
          · intro W hW; first | (go_simp; done) | (go_simp; with_reducible rfl)
          try simp only [Act.put, List.setIfInBounds_toArray, List.set_cons_zero, List.set_cons_succ]
          refine wpG_take (i := 2) (oi := { dst := some 23, op := Op.load 3 (Operand.tmp 22), type := 3, pos := "ref.go:90", after := #[{ on := 1, ground := Ground.data }], guard := none }) (v := ?_) rfl (by kernel_rfl) (by kernel_rfl) (by kernel_rfl) (by rfl) ?_ ?_
          rotate_left
          · intro W hW; have hcW := cellU ca hW; first | (go_simp; done) | (go_simp; with_reducible rfl)
          try simp only [Act.put, List.setIfInBounds_toArray, List.set_cons_zero, List.set_cons_succ]
          refine wpG_take (i := 3) (oi := { dst := some 24, op := Op.move (Operand.tmp 7), type := 3, pos := "ref.go:90", after := #[], guard := none }) (v := ?_) rfl (by kernel_rfl) (by kernel_rfl) (by kernel_rfl) (by rfl) ?_ ?_
          rotate_left
          · intro W hW; first | (go_simp; done) | (go_simp; with_reducible rfl)
          try simp only [Act.put, List.setIfInBounds_toArray, List.set_cons_zero, List.set_cons_succ]
          refine wpG_take (i := 4) (oi := { dst := some 25, op := Op.indexAddr 22 (Operand.tmp 3) (Operand.tmp 24), type := 0, pos := "ref.go:90", after := #[{ on := 3, ground := Ground.data }], guard := none }) (v := ?_) rfl (by kernel_rfl) (by kernel_rfl) (by kernel_rfl) (by rfl) ?_ ?_
          rotate_left
          · intro W hW; first | (go_simp; done) | (go_simp; with_reducible rfl)
          try simp only [Act.put, List.setIfInBounds_toArray, List.set_cons_zero, List.set_cons_succ]
          refine wpG_take (i := 5) (oi := { dst := some 26, op := Op.load 3 (Operand.tmp 25), type := 3, pos := "ref.go:90", after := #[{ on := 4, ground := Ground.data }], guard := none }) (v := ?_) rfl (by kernel_rfl) (by kernel_rfl) (by kernel_rfl) (by rfl) ?_ ?_
          rotate_left
          · intro W hW; have hcW := cellU cb hW; first | (go_simp; done) | (go_simp; with_reducible rfl)
          try simp only [Act.put, List.setIfInBounds_toArray, List.set_cons_zero, List.set_cons_succ]
          refine wpG_take (i := 6) (oi := { dst := some 27, op := Op.binOp BinOp.mul 3 (Operand.tmp 23) (Operand.tmp 26) 3, type := 3, pos := "ref.go:90", after := #[{ on := 2, ground := Ground.data }, { on := 5, ground := Ground.data }], guard := none }) (v := ?_) rfl (by kernel_rfl) (by kernel_rfl) (by kernel_rfl) (by rfl) ?_ ?_
          rotate_left
          · intro W hW; first | (go_simp; done) | (go_simp; with_reducible rfl)
          try simp only [Act.put, List.setIfInBounds_toArray, List.set_cons_zero, List.set_cons_succ]
          refine wpG_take (i := 7) (oi := { dst := some 28, op := Op.binOp BinOp.rem 3 (Operand.tmp 27) (Operand.const (Value.int IntKind.i64 3329)) 3, type := 3, pos := "ref.go:90", after := #[{ on := 6, ground := Ground.data }], guard := none }) (v := ?_) rfl (by kernel_rfl) (by kernel_rfl) (by kernel_rfl) (by rfl) ?_ ?_
          rotate_left
          · intro W hW; first | (go_simp; done) | (go_simp; with_reducible rfl)
          try simp only [Act.put, List.setIfInBounds_toArray, List.set_cons_zero, List.set_cons_succ]
          refine wpG_take (i := 8) (oi := { dst := some 8, op := Op.assign (Operand.tmp 28), type := 3, pos := "ref.go:90", after := #[{ on := 7, ground := Ground.data }, { on := 0, ground := Ground.phase }, { on := 1, ground := Ground.phase }, { on := 2, ground := Ground.phase }, { on := 3, ground := Ground.phase }, { on := 4, ground := Ground.phase }, { on := 5, ground := Ground.phase }, { on := 6, ground := Ground.phase }, { on := 7, ground := Ground.phase }], guard := none }) (v := ?_) rfl (by kernel_rfl) (by kernel_rfl) (by kernel_rfl) (by rfl) ?_ ?_
          rotate_left
          · intro W hW; first | (go_simp; done) | (go_simp; with_reducible rfl)
          try simp only [Act.put, List.setIfInBounds_toArray, List.set_cons_zero, List.set_cons_succ]
          refine wpG_done (by kernel_rfl) ?_
          have ra3 := ra2.drew
          have rb3 := rb2.drew
          have rz3 := rz2.drew
          have ro3 := ro2.drew
          have hb3 := hbx2.drew
          clear ra2 rb2 rz2 ro2 hbx2 ca cb
          generalize wr.drew = wd at ra3 rb3 rz3 ro3 hb3 ⊢
          obtain ⟨q, hq⟩ : ∃ q : Nat, q = i + j := ⟨_, rfl⟩
          have xq : IntKind.i64.wrap ((i : Int) + (j : Int)) = (q : Int) := by rw [IntWalk.i64_in _ (by omega)]; omega
          by_cases hs : q < 256
          · have hdq : decide ((q : Int) < 256) = true := decide_eq_true (by omega)
            have hqI : (q : Int) < 256 := by omega
            have co := ro3.cell (j := q) (by rw [gI_length]; exact hs)
            rw [gI_get _ hs] at co
            simp only [fzF] at co
            obtain ⟨s, v, hv, u1, u2, u3⟩ := put_facts (o2 q) c
            rw [← HN.out] at u1
            have HPn : Hid (Pp a b i (j + 1) (putZ o2 q c)) := by
              have := HP2.out.put (by omega)
              rw [← hq, ← HCc.out] at this
              exact this
            have HPut : Hid _ := gI_put o2 q c v hv
            have HS : Hid (q < 256) := hs
            generalize (o2 q).val = O at co u1
            clear hv hq
            go_wp2_with (refine wpList_store_int rfl _ _ rfl rfl (v : Int) rfl ro3 (by rw [gI_length]; exact HS.out) ?_)
            intro w9 r9 hw9
            rw [HPut.out] at r9
            have ra9 := ra3.wrote hw9 (by omega)
            have rb9 := rb3.wrote hw9 (by omega)
            have rz9 := rz3.wrote hw9 (by omega)
            have hb9 := hw9.below _ _ (by omega) hb3
            clear ra3 rb3 rz3 ro3 hb3 co hw9
            go_wp2
            go_roundw
            case rel => exact ⟨j + 1, _, by omega, by go_num, HPn, ra9, rb9, rz9, r9, hb9⟩
            case measure => simp [intOf] <;> omega
          · have hdq : decide ((q : Int) < 256) = false := decide_eq_false (by omega)
            have hqI : (256 : Int) ≤ (q : Int) := by omega
            obtain ⟨d, hdd⟩ : ∃ d : Nat, d = q - 256 := ⟨_, rfl⟩
            have xd : IntKind.i64.wrap ((q : Int) - 256) = (d : Int) := by rw [IntWalk.i64_in _ (by omega)]; omega
            have hd256 : d < 256 := by omega
            have hdI : (d : Int) < 256 := by omega
            have co := ro3.cell (j := d) (by rw [gI_length]; exact hd256)
            rw [gI_get _ hd256] at co
            simp only [fzF] at co
            obtain ⟨s, t, v, hv, u1, u2, u3, u4⟩ := turn_facts (o2 d) c
            rw [← HN.out] at u2
            have HPn : Hid (Pp a b i (j + 1) (putZ o2 d (-c))) := by
              have := HP2.out.turn hlt hltj (by omega)
              rw [← hq, ← hdd, ← HCc.out] at this
              exact this
            have HPut : Hid _ := gI_put o2 d (-c) v hv
            have HS : Hid (d < 256) := hd256
            generalize (o2 d).val = O at co u1
            clear hv hq hdd
            go_wp2_with (refine wpList_store_int rfl _ _ rfl rfl (v : Int) rfl ro3 (by rw [gI_length]; exact HS.out) ?_)
            intro w9 r9 hw9
            rw [HPut.out] at r9
            have ra9 := ra3.wrote hw9 (by omega)
            have rb9 := rb3.wrote hw9 (by omega)
            have rz9 := rz3.wrote hw9 (by omega)
            have hb9 := hw9.below _ _ (by omega) hb3
            clear ra3 rb3 rz3 ro3 hb3 co hw9
            go_wp2
            go_roundw
            case rel => exact ⟨j + 1, _, by omega, by go_num, HPn, ra9, rb9, rz9, r9, hb9⟩
            case measure => simp [intOf] <;> omega
        · have hje : j = 256 := by omega
          have hdj : decide ((j : Int) < 256) = false := decide_eq_false (by omega)
          have hjI : (256 : Int) ≤ (j : Int) := by omega
          have HPn : Hid (Pp a b (i + 1) 0 o2) := by
            have := HP2.out
            rw [hje] at this
            exact this.next
          clear hje
          go_wp2
          go_roundw
          case rel => exact ⟨i + 1, o2, by omega, by go_num, HPn, ra2, rb2, rz2, ro2, hbx2⟩
          case measure => simp [intOf] <;> omega
    · have hie : i = 256 := by omega
      have hd : decide ((i : Int) < 256) = false := decide_eq_false (by omega)
      have hiI : (256 : Int) ≤ (i : Int) := by omega
      have HE : Hid (gI (fzF o) = gI (fzF (pd a b))) := by
        show _ = _
        have hp := HP.out
        rw [hie] at hp
        exact fz_congr fun k hk => hp.done k hk
      clear hie
      rw [HE.out] at ro'
      go_wp2_with (first | refine wpList_load_row rfl 22 _ rfl rfl ro' _ Tryd.underlying22 rfl (poInfo _) ?_ | (refine wpList_store_row rfl 22 _ _ rfl (gI (fzF (pd a b))) rfl rfl rz' (by rw [gI_length, gI_length]) (poInfo _) ?_; intro w9 r9 hw9))
      refine bodyPost_row (k := .i64) rfl rfl rfl r9 Tryd.underlying22 rfl (poInfo _) ?_
      exact ⟨by rw [HA.out, HB.out], hw9.below _ _ (by omega) hbx⟩
end Go.Proofs.YtbladcgdbhogcaaDoor
