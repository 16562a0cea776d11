/- What the document's own way back from the factors is: a contract of the reference of layer 11, fourth part. -/
import Derived.Test.YtbladcgdbhogcaaDoorRef11c
namespace Go.Proofs.YtbladcgdbhogcaaDoor
open Go.ChangeShapes Go.WideShapes Go.ChangeAt Go.RowKit
set_option linter.unusedSimpArgs false
set_option linter.unusedVariables false

/-- So many terms of a place. -/
def inS (g : Nat → FZ) (n p : Nat) : FZ := sm n fun i => g (2 * i + p % 2) * (3303 * pz (zi i) (p / 2))
theorem inS_all (g : Nat → FZ) (p : Nat) : inS g 128 p = inw g p := rfl
theorem inS_next (g : Nat → FZ) (n p : Nat) : inS g (n + 1) p = inS g n p + g (2 * n + p % 2) * (3303 * pz (zi n) (p / 2)) := rfl
theorem kz_first (r : FZ) : (3303 * pz r 0).val = 3303 := rfl
theorem kz_next (r : FZ) (j : Nat) : 3303 * pz r (j + 1) = 3303 * pz r j * r := by
  rw [pz_succ]
  generalize pz r j = a
  grind -lia
/-- What the machine reckons of p + x y, and of its rest. -/
theorem muladd_facts (p x y : FZ) : ∃ m s v : Nat, v = (p + x * y).val ∧ IntKind.i64.wrap (((x.val : Nat) : Int) * ((y.val : Nat) : Int)) = (m : Int) ∧ IntKind.i64.wrap (((p.val : Nat) : Int) + (m : Int)) = (s : Int) ∧ ((s : Nat) : Int).tmod 3329 = (v : Int) ∧ IntKind.i64.wrap (v : Int) = (v : Int) := by
  have h1 := mul_lt_fz x y
  have h2 := p.isLt
  have h3 := fz_muladd p x y
  refine ⟨x.val * y.val, p.val + x.val * y.val, _, rfl, ?_, ?_, ?_, ?_⟩
  · rw [← Int.natCast_mul]
    exact IntWalk.i64_in _ (by omega)
  · exact IntWalk.i64_in _ (by omega)
  · rw [Int.tmod_eq_emod_of_nonneg (by omega), h3]
    omega
  · exact IntWalk.i64_in _ (by omega)
theorem mul_facts (x y : FZ) : ∃ m v : Nat, v = (x * y).val ∧ IntKind.i64.wrap (((x.val : Nat) : Int) * ((y.val : Nat) : Int)) = (m : Int) ∧ ((m : Nat) : Int).tmod 3329 = (v : Int) ∧ IntKind.i64.wrap (v : Int) = (v : Int) := by
  have h1 := mul_lt_fz x y
  have h3 := fz_val_mul x y
  refine ⟨x.val * y.val, _, rfl, ?_, ?_, ?_⟩
  · rw [← Int.natCast_mul]
    exact IntWalk.i64_in _ (by omega)
  · rw [Int.tmod_eq_emod_of_nonneg (by omega), h3]
    omega
  · exact IntWalk.i64_in _ (by omega)

set_option maxRecDepth 100000 in
set_option maxHeartbeats 4000000 in
theorem inverse11_any (A : Array Value) (F : Nat → Int) (hF : Po F) (hA : A = ((gI F).map (Value.int .i64)).toArray) (w : World) :
    Calls Tryd.prog 19 #[.agg A] w fun e w' => e = .returned (poV (inw (rF F))) ∧ Below w.heap.size w w' := by
  have HF : Hid (Po F) := hF
  clear hF
  go_enter Tryd.func19, Tryd.ntmps19
  go_wp2_with (refine wpList_box_row (k := .i64) rfl 22 _ rfl (gI F) (by rw [← hA]; rfl) (gI_ne _) (poMax _) ?_)
  intro w1 ra bn sn
  rw [gI_length] at ra
  have hbw := bn
  have n1 : w.heap.size < w1.heap.size := by have := sn.out; omega
  clear bn sn hA
  go_wp2_with (refine wpList_alloc_row (k := .i64) rfl 22 rfl (gI fun _ => 0) (alloc_po _) (gI_ne _) (poMax _) ?_)
  intro w2 rz bn sn
  rw [gI_length] at rz
  replace ra := ra.kept bn
  replace hbw := stepB hbw bn
  have n2 : w1.heap.size < w2.heap.size := by have := sn.out; omega
  clear bn sn
  go_wp2_with (refine wpList_load_row rfl 22 _ rfl rfl ra _ Tryd.underlying22 rfl (poInfo _) ?_)
  refine (clean11_any _ F HF.out rfl _).mono ?_
  rintro e w4 ⟨rfl, bn⟩
  replace ra := ra.kept bn
  replace rz := rz.kept bn
  replace hbw := stepB hbw bn
  have n4 := bn.size
  clear bn
  go_wp2_with (refine wpList_store_row rfl 22 _ _ rfl (gI (fzF (rF F))) rfl rfl ra (by rw [gI_length, gI_length]) (poInfo _) ?_)
  intro w5 ra5 hw5
  replace rz := rz.wrote hw5 (by omega)
  replace hbw := hw5.below _ _ (Nat.le_refl _) hbw
  have n5 : w4.heap.size ≤ w5.heap.size := Nat.le_of_eq hw5.size.symm
  clear ra hw5
  obtain ⟨a, ha⟩ : ∃ a : Nat → FZ, a = rF F := ⟨_, rfl⟩
  rw [← ha] at ra5
  have HA : Hid _ := ha
  clear ha
  go_wp2_with (refine wpList_alloc_row (k := .i64) rfl 22 rfl (gI fun _ => 0) (alloc_po _) (gI_ne _) (poMax _) ?_)
  intro w6 ro bn sn
  rw [gI_length] at ro
  replace ra5 := ra5.kept bn
  replace rz := rz.kept bn
  replace hbw := stepB hbw bn
  have n6 : w5.heap.size < w6.heap.size := by have := sn.out; omega
  clear bn sn
  go_wp2
  go_loopw [4] (fun iv wx => ∃ (i : Nat) (H : Nat → Int), i ≤ 128 ∧ iv = .int .i64 (i : Int) ∧ Hid (∀ k, k < 256 → H k = fzF (inS a i) k) ∧ RowAt .i64 22 w.heap.size 256 (gI (fzF a)) wx ∧ RowAt .i64 22 w1.heap.size 256 (gI fun _ => 0) wx ∧ RowAt .i64 22 w5.heap.size 256 (gI H) wx ∧ Below w.heap.size w wx) (fun iv _ => 128 - (intOf iv).toNat)
  case atStart => exact ⟨0, fun _ => 0, by omega, rfl, (by show ∀ k, _; intro k _; rfl), ra5, rz, ro, hbw⟩
  case round =>
    obtain ⟨i, H, hi, rfl, HH, ra, rz', ro', hbx⟩ := hrel
    clear ra5 rz ro hbw
    by_cases hlt : i < 128
    · have hd : decide ((i : Int) < 128) = true := decide_eq_true (by omega)
      have hiI : (i : Int) < 128 := by omega
      go_wp2_with fail
      refine (root11_any i hlt _ rfl _).mono ?_
      rintro e wq ⟨rfl, rfl⟩
      have HZr : Hid (((zr i).val : Nat) < 3329) := (zr i).isLt
      have HPw : Hid (pwZ (((zr i).val : Nat) : Int) 255 = (zi i).val) := pw_pz (zr i) 255
      generalize (zr i).val = zv at HZr HPw ⊢
      go_wp2_with fail
      refine (powerZ_any (zv : Int) 255 ⟨by omega, by have := HZr.out; omega⟩ (by decide) _).mono ?_
      rintro e wq ⟨rfl, rfl⟩
      rw [HPw.out]
      clear HZr HPw
      obtain ⟨z, hz⟩ : ∃ z : FZ, z = zi i := ⟨_, rfl⟩
      rw [← hz]
      have HZ : Hid _ := hz
      clear hz
      obtain ⟨ei, oi, hei, hoi, p1, p2, p3, p4, p5, p6⟩ := two_facts i hlt
      have HEi : Hid _ := hei
      have HOi : Hid _ := hoi
      have HS : Hid (∀ k, k < 256 → H k = fzF (fun p => inS a (if p / 2 < 0 then i + 1 else i) p) k) := by
        show ∀ k, _
        intro k hk
        rw [HH.out k hk]
        rfl
      clear hei hoi HH
      go_wp2
      go_loopw [6, 7] (fun kv jv wx => ∃ (j : Nat) (H : Nat → Int), j ≤ 128 ∧ jv = .int .i64 (j : Int) ∧ kv = .int .i64 (((3303 * pz z j).val : Nat) : Int) ∧ Hid (∀ k, k < 256 → H k = fzF (fun p => inS a (if p / 2 < j then i + 1 else i) p) k) ∧ RowAt .i64 22 w.heap.size 256 (gI (fzF a)) wx ∧ RowAt .i64 22 w1.heap.size 256 (gI fun _ => 0) wx ∧ RowAt .i64 22 w5.heap.size 256 (gI H) wx ∧ Below w.heap.size w wx) (fun _ jv _ => 128 - (intOf jv).toNat)
      case atStart => exact ⟨0, H, by omega, rfl, by rw [kz_first]; rfl, HS, ra, rz', ro', hbx⟩
      case round =>
        obtain ⟨j, H2, hj, rfl, rfl, HH, ra, rz, ro, hbx⟩ := hrel
        clear ro' rz'
        by_cases hltj : j < 128
        · have hdj : decide ((j : Int) < 128) = true := decide_eq_true (by omega)
          have hjI : (j : Int) < 128 := by omega
          obtain ⟨ej, oj, hej, hoj, q1, q2, q3, q4, q5, q6⟩ := two_facts j hltj
          have ca := ra.cell (j := ei) (by rw [gI_length]; exact p3)
          rw [gI_get _ p3] at ca
          unfold fzF at ca
          have cb := ra.cell (j := oi) (by rw [gI_length]; exact p4)
          rw [gI_get _ p4] at cb
          unfold fzF at cb
          have co := ro.cell (j := ej) (by rw [gI_length]; exact q3)
          rw [gI_get _ q3, HH.out ej q3] at co
          simp only [fzF] at co
          have he2 : ej / 2 = j := by omega
          have ho2 : oj / 2 = j := by omega
          rw [he2, if_neg (by omega)] at co
          have n1 := inS_next a i ej
          have n2 := inS_next a i oj
          rw [he2, show ej % 2 = 0 by omega, ← HZ.out, show 2 * i + 0 = ei by have := HEi.out; omega] at n1
          rw [ho2, show oj % 2 = 1 by omega, ← HZ.out, show 2 * i + 1 = oi by have := HOi.out; omega] at n2
          obtain ⟨m0, t0, v0, hv0, y1, y2, y3, y4⟩ := muladd_facts (inS a i ej) (a ei) (3303 * pz z j)
          obtain ⟨m1, t1, v1, hv1, u1, u2, u3, u4⟩ := muladd_facts (inS a i oj) (a oi) (3303 * pz z j)
          obtain ⟨m2, v2, hv2, g1, g2, g3⟩ := mul_facts (3303 * pz z j) z
          rw [← n1] at hv0
          rw [← n2] at hv1
          rw [← kz_next] at hv2
          have HO1 : Hid (H2 oj = (((inS a i oj).val : Nat) : Int)) := by
            show _ = _
            rw [HH.out oj q4]
            simp only [fzF]
            rw [ho2, if_neg (by omega)]
          have HHn : Hid (∀ k, k < 256 → (if k = oj then ((v1 : Nat) : Int) else if k = ej then ((v0 : Nat) : Int) else H2 k) = fzF (fun p => inS a (if p / 2 < j + 1 then i + 1 else i) p) k) := by
            show ∀ k, _
            intro k hk
            by_cases h1 : k = oj
            · rw [if_pos h1, h1, hv1]
              simp only [fzF]
              rw [ho2, if_pos (by omega)]
            · rw [if_neg h1]
              by_cases h2 : k = ej
              · rw [if_pos h2, h2, hv0]
                simp only [fzF]
                rw [he2, if_pos (by omega)]
              · rw [if_neg h2, HH.out k hk]
                simp only [fzF]
                by_cases h3 : k / 2 < j
                · rw [if_pos h3, if_pos (by omega)]
                · rw [if_neg h3, if_neg (by omega)]
          have HV2 : Hid _ := hv2
          have HNe : Hid (oj ≠ ej) := by
            show _ ≠ _
            omega
          generalize (3303 * pz z j).val = K at y1 u1 g1 ⊢
          generalize (inS a i ej).val = O0 at y2 co
          generalize (inS a i oj).val = O1 at u2 HO1
          generalize (a ei).val = A0 at ca y1
          generalize (a oi).val = A1 at cb u1
          have Q3 : Hid (ej < 256) := q3
          have Q4 : Hid (oj < 256) := q4
          generalize hzv : z.val = zv at g1 ⊢
          have HZv : Hid _ := hzv
          clear hzv hv0 hv1 hv2 n1 n2 he2 ho2 hej hoj HH
          go_wp2_with fail
          have hB : Below wr.heap.size wr wr.drew := (Below.refl _ _).drew
          refine wpF_begin 15 (w0 := wr) (by kernel_rfl) ?_
          refine wpF_pure (hb := .inr hB) (i := 0) (oi := { dst := some 21, op := Op.move (Operand.tmp 7), type := 3, pos := "ref.go:63", after := #[], guard := none }) (v := ?_) rfl (by decide) (by kernel_rfl) (by kernel_rfl) (by kernel_rfl) (by rfl) ?_ ?_
          rotate_left
          · intro W; first | (go_simp; done) | (go_simp; with_reducible rfl)
          try simp only [Act.put, List.setIfInBounds_toArray, List.set_cons_zero, List.set_cons_succ]
          refine wpF_pure (hb := .inr hB) (i := 1) (oi := { dst := some 22, op := Op.binOp BinOp.mul 3 (Operand.const (Value.int IntKind.i64 2)) (Operand.tmp 21) 3, type := 3, pos := "ref.go:63", after := #[{ on := 0, ground := Ground.data }], guard := none }) (v := ?_) rfl (by decide) (by kernel_rfl) (by kernel_rfl) (by kernel_rfl) (by rfl) ?_ ?_
          rotate_left
          · intro W; first | (go_simp; done) | (go_simp; with_reducible rfl)
          try simp only [Act.put, List.setIfInBounds_toArray, List.set_cons_zero, List.set_cons_succ]
          refine wpF_pure (hb := .inr hB) (i := 2) (oi := { dst := some 23, op := Op.move (Operand.tmp 7), type := 3, pos := "ref.go:63", after := #[], guard := none }) (v := ?_) rfl (by decide) (by kernel_rfl) (by kernel_rfl) (by kernel_rfl) (by rfl) ?_ ?_
          rotate_left
          · intro W; first | (go_simp; done) | (go_simp; with_reducible rfl)
          try simp only [Act.put, List.setIfInBounds_toArray, List.set_cons_zero, List.set_cons_succ]
          refine wpF_pure (hb := .inr hB) (i := 3) (oi := { dst := some 24, op := Op.binOp BinOp.mul 3 (Operand.const (Value.int IntKind.i64 2)) (Operand.tmp 23) 3, type := 3, pos := "ref.go:63", after := #[{ on := 2, ground := Ground.data }], guard := none }) (v := ?_) rfl (by decide) (by kernel_rfl) (by kernel_rfl) (by kernel_rfl) (by rfl) ?_ ?_
          rotate_left
          · intro W; first | (go_simp; done) | (go_simp; with_reducible rfl)
          try simp only [Act.put, List.setIfInBounds_toArray, List.set_cons_zero, List.set_cons_succ]
          refine wpF_pure (hb := .inr hB) (i := 4) (oi := { dst := some 25, op := Op.indexAddr 22 (Operand.tmp 3) (Operand.tmp 24), type := 0, pos := "ref.go:63", after := #[{ on := 3, ground := Ground.data }], guard := none }) (v := ?_) rfl (by decide) (by kernel_rfl) (by kernel_rfl) (by kernel_rfl) (by rfl) ?_ ?_
          rotate_left
          · intro W; first | (go_simp; done) | (go_simp; with_reducible rfl)
          try simp only [Act.put, List.setIfInBounds_toArray, List.set_cons_zero, List.set_cons_succ]
          refine wpF_take (hb := hB) (i := 5) (oi := { dst := some 26, op := Op.load 3 (Operand.tmp 25), type := 3, pos := "ref.go:63", after := #[{ on := 4, ground := Ground.data }], guard := none }) (v := ?_) rfl (by decide) (by kernel_rfl) (by kernel_rfl) (by kernel_rfl) (by kernel_rfl) (by kernel_rfl) (by rfl) ?_ ?_
          rotate_left
          · intro W hW; have hcW := cellB11 co hW; first | (go_simp; done) | (go_simp; with_reducible rfl)
          try simp only [Act.put, List.setIfInBounds_toArray, List.set_cons_zero, List.set_cons_succ]
          refine wpF_pure (hb := .inr hB) (i := 6) (oi := { dst := some 27, op := Op.move (Operand.tmp 4), type := 3, pos := "ref.go:63", after := #[], guard := none }) (v := ?_) rfl (by decide) (by kernel_rfl) (by kernel_rfl) (by kernel_rfl) (by rfl) ?_ ?_
          rotate_left
          · intro W; first | (go_simp; done) | (go_simp; with_reducible rfl)
          try simp only [Act.put, List.setIfInBounds_toArray, List.set_cons_zero, List.set_cons_succ]
          refine wpF_pure (hb := .inr hB) (i := 7) (oi := { dst := some 28, op := Op.binOp BinOp.mul 3 (Operand.const (Value.int IntKind.i64 2)) (Operand.tmp 27) 3, type := 3, pos := "ref.go:63", after := #[{ on := 6, ground := Ground.data }], guard := none }) (v := ?_) rfl (by decide) (by kernel_rfl) (by kernel_rfl) (by kernel_rfl) (by rfl) ?_ ?_
          rotate_left
          · intro W; first | (go_simp; done) | (go_simp; with_reducible rfl)
          try simp only [Act.put, List.setIfInBounds_toArray, List.set_cons_zero, List.set_cons_succ]
          refine wpF_pure (hb := .inr hB) (i := 8) (oi := { dst := some 29, op := Op.indexAddr 22 (Operand.tmp 1) (Operand.tmp 28), type := 0, pos := "ref.go:63", after := #[{ on := 7, ground := Ground.data }], guard := none }) (v := ?_) rfl (by decide) (by kernel_rfl) (by kernel_rfl) (by kernel_rfl) (by rfl) ?_ ?_
          rotate_left
          · intro W; first | (go_simp; done) | (go_simp; with_reducible rfl)
          try simp only [Act.put, List.setIfInBounds_toArray, List.set_cons_zero, List.set_cons_succ]
          refine wpF_take (hb := hB) (i := 9) (oi := { dst := some 30, op := Op.load 3 (Operand.tmp 29), type := 3, pos := "ref.go:63", after := #[{ on := 8, ground := Ground.data }], guard := none }) (v := ?_) rfl (by decide) (by kernel_rfl) (by kernel_rfl) (by kernel_rfl) (by kernel_rfl) (by kernel_rfl) (by rfl) ?_ ?_
          rotate_left
          · intro W hW; have hcW := cellB11 ca hW; first | (go_simp; done) | (go_simp; with_reducible rfl)
          try simp only [Act.put, List.setIfInBounds_toArray, List.set_cons_zero, List.set_cons_succ]
          refine wpF_pure (hb := .inr hB) (i := 10) (oi := { dst := some 31, op := Op.move (Operand.tmp 6), type := 3, pos := "ref.go:63", after := #[], guard := none }) (v := ?_) rfl (by decide) (by kernel_rfl) (by kernel_rfl) (by kernel_rfl) (by rfl) ?_ ?_
          rotate_left
          · intro W; first | (go_simp; done) | (go_simp; with_reducible rfl)
          try simp only [Act.put, List.setIfInBounds_toArray, List.set_cons_zero, List.set_cons_succ]
          refine wpF_pure (hb := .inr hB) (i := 11) (oi := { dst := some 32, op := Op.binOp BinOp.mul 3 (Operand.tmp 30) (Operand.tmp 31) 3, type := 3, pos := "ref.go:63", after := #[{ on := 9, ground := Ground.data }, { on := 10, ground := Ground.data }], guard := none }) (v := ?_) rfl (by decide) (by kernel_rfl) (by kernel_rfl) (by kernel_rfl) (by rfl) ?_ ?_
          rotate_left
          · intro W; first | (go_simp; done) | (go_simp; with_reducible rfl)
          try simp only [Act.put, List.setIfInBounds_toArray, List.set_cons_zero, List.set_cons_succ]
          refine wpF_pure (hb := .inr hB) (i := 12) (oi := { dst := some 33, op := Op.binOp BinOp.add 3 (Operand.tmp 26) (Operand.tmp 32) 3, type := 3, pos := "ref.go:63", after := #[{ on := 5, ground := Ground.data }, { on := 11, ground := Ground.data }], guard := none }) (v := ?_) rfl (by decide) (by kernel_rfl) (by kernel_rfl) (by kernel_rfl) (by rfl) ?_ ?_
          rotate_left
          · intro W; first | (go_simp; done) | (go_simp; with_reducible rfl)
          try simp only [Act.put, List.setIfInBounds_toArray, List.set_cons_zero, List.set_cons_succ]
          refine wpF_pure (hb := .inr hB) (i := 13) (oi := { dst := some 34, op := Op.binOp BinOp.rem 3 (Operand.tmp 33) (Operand.const (Value.int IntKind.i64 3329)) 3, type := 3, pos := "ref.go:63", after := #[{ on := 12, ground := Ground.data }], guard := none }) (v := ?_) rfl (by decide) (by kernel_rfl) (by kernel_rfl) (by kernel_rfl) (by rfl) ?_ ?_
          rotate_left
          · intro W; first | (go_simp; done) | (go_simp; with_reducible rfl)
          try simp only [Act.put, List.setIfInBounds_toArray, List.set_cons_zero, List.set_cons_succ]
          refine wpF_pure (hb := .inr hB) (i := 14) (oi := { dst := some 35, op := Op.indexAddr 22 (Operand.tmp 3) (Operand.tmp 22), type := 0, pos := "ref.go:63", after := #[{ on := 1, ground := Ground.data }, { on := 0, ground := Ground.phase }, { on := 1, ground := Ground.phase }, { on := 2, ground := Ground.phase }, { on := 3, ground := Ground.phase }, { on := 4, ground := Ground.phase }, { on := 5, ground := Ground.phase }, { on := 6, ground := Ground.phase }, { on := 7, ground := Ground.phase }, { on := 8, ground := Ground.phase }, { on := 9, ground := Ground.phase }, { on := 10, ground := Ground.phase }, { on := 11, ground := Ground.phase }, { on := 12, ground := Ground.phase }, { on := 13, ground := Ground.phase }], guard := none }) (v := ?_) rfl (by decide) (by kernel_rfl) (by kernel_rfl) (by kernel_rfl) (by rfl) ?_ ?_
          rotate_left
          · intro W; first | (go_simp; done) | (go_simp; with_reducible rfl)
          try simp only [Act.put, List.setIfInBounds_toArray, List.set_cons_zero, List.set_cons_succ]
          refine wpF_do (i := 15) (o := { dst := none, op := Op.store 3 (Operand.tmp 35) (Operand.tmp 34), type := 0, pos := "ref.go:63", after := #[{ on := 14, ground := Ground.data }, { on := 13, ground := Ground.data }, { on := 0, ground := Ground.phase }, { on := 1, ground := Ground.phase }, { on := 2, ground := Ground.phase }, { on := 3, ground := Ground.phase }, { on := 4, ground := Ground.phase }, { on := 5, ground := Ground.phase }, { on := 6, ground := Ground.phase }, { on := 7, ground := Ground.phase }, { on := 8, ground := Ground.phase }, { on := 9, ground := Ground.phase }, { on := 10, ground := Ground.phase }, { on := 11, ground := Ground.phase }, { on := 12, ground := Ground.phase }, { on := 13, ground := Ground.phase }], guard := none }) (by kernel_rfl) rfl (by rfl) fun K hK => ?_
          refine wp_store_int _ _ (by rfl) (by rfl) (v0 : Int) (by rfl) ro.drew (by rw [gI_length]; exact Q3.out) ?_
          intro w8 r8 hw8
          rw [gI_set] at r8
          refine hK.out _ _ (.inl rfl) ?_
          clear hK K
          try simp only [Act.put, List.setIfInBounds_toArray, List.set_cons_zero, List.set_cons_succ]
          refine wpF_done (by kernel_rfl) ?_
          have hw9 := hw8.ofdrew11
          have ra9 := ra.wrote hw9 (by omega)
          have rz9 := rz.wrote hw9 (by omega)
          have hb9 := hw9.below _ _ (by omega) hbx
          have cb9 := ra9.cell (j := oi) (by rw [gI_length]; exact p4)
          rw [gI_get _ p4] at cb9
          have cbv : fzF a oi = (A1 : Int) := by
            have h1 := ra.cell (j := oi) (by rw [gI_length]; exact p4)
            rw [gI_get _ p4, cb, Option.some.injEq, Value.int.injEq] at h1
            exact h1.2.symm
          rw [cbv] at cb9
          have co9 := r8.cell (j := oj) (by rw [gI_length]; exact Q4.out)
          rw [gI_get _ Q4.out, if_neg HNe.out, HO1.out] at co9
          clear ra rz ro hbx ca cb co hw8 hw9 cbv hB
          rename World => wx
          go_wp2_with fail
          have hB : Below wx.heap.size wx wx.drew := (Below.refl _ _).drew
          refine wpF_begin 18 (w0 := wx) (by kernel_rfl) ?_
          refine wpF_pure (hb := .inr hB) (i := 0) (oi := { dst := some 36, op := Op.move (Operand.tmp 7), type := 3, pos := "ref.go:64", after := #[], guard := none }) (v := ?_) rfl (by decide) (by kernel_rfl) (by kernel_rfl) (by kernel_rfl) (by rfl) ?_ ?_
          rotate_left
          · intro W; first | (go_simp; done) | (go_simp; with_reducible rfl)
          try simp only [Act.put, List.setIfInBounds_toArray, List.set_cons_zero, List.set_cons_succ]
          refine wpF_pure (hb := .inr hB) (i := 1) (oi := { dst := some 37, op := Op.binOp BinOp.mul 3 (Operand.const (Value.int IntKind.i64 2)) (Operand.tmp 36) 3, type := 3, pos := "ref.go:64", after := #[{ on := 0, ground := Ground.data }], guard := none }) (v := ?_) rfl (by decide) (by kernel_rfl) (by kernel_rfl) (by kernel_rfl) (by rfl) ?_ ?_
          rotate_left
          · intro W; first | (go_simp; done) | (go_simp; with_reducible rfl)
          try simp only [Act.put, List.setIfInBounds_toArray, List.set_cons_zero, List.set_cons_succ]
          refine wpF_pure (hb := .inr hB) (i := 2) (oi := { dst := some 38, op := Op.binOp BinOp.add 3 (Operand.tmp 37) (Operand.const (Value.int IntKind.i64 1)) 3, type := 3, pos := "ref.go:64", after := #[{ on := 1, ground := Ground.data }], guard := none }) (v := ?_) rfl (by decide) (by kernel_rfl) (by kernel_rfl) (by kernel_rfl) (by rfl) ?_ ?_
          rotate_left
          · intro W; first | (go_simp; done) | (go_simp; with_reducible rfl)
          try simp only [Act.put, List.setIfInBounds_toArray, List.set_cons_zero, List.set_cons_succ]
          refine wpF_pure (hb := .inr hB) (i := 3) (oi := { dst := some 39, op := Op.move (Operand.tmp 7), type := 3, pos := "ref.go:64", after := #[], guard := none }) (v := ?_) rfl (by decide) (by kernel_rfl) (by kernel_rfl) (by kernel_rfl) (by rfl) ?_ ?_
          rotate_left
          · intro W; first | (go_simp; done) | (go_simp; with_reducible rfl)
          try simp only [Act.put, List.setIfInBounds_toArray, List.set_cons_zero, List.set_cons_succ]
          refine wpF_pure (hb := .inr hB) (i := 4) (oi := { dst := some 40, op := Op.binOp BinOp.mul 3 (Operand.const (Value.int IntKind.i64 2)) (Operand.tmp 39) 3, type := 3, pos := "ref.go:64", after := #[{ on := 3, ground := Ground.data }], guard := none }) (v := ?_) rfl (by decide) (by kernel_rfl) (by kernel_rfl) (by kernel_rfl) (by rfl) ?_ ?_
          rotate_left
          · intro W; first | (go_simp; done) | (go_simp; with_reducible rfl)
          try simp only [Act.put, List.setIfInBounds_toArray, List.set_cons_zero, List.set_cons_succ]
          refine wpF_pure (hb := .inr hB) (i := 5) (oi := { dst := some 41, op := Op.binOp BinOp.add 3 (Operand.tmp 40) (Operand.const (Value.int IntKind.i64 1)) 3, type := 3, pos := "ref.go:64", after := #[{ on := 4, ground := Ground.data }], guard := none }) (v := ?_) rfl (by decide) (by kernel_rfl) (by kernel_rfl) (by kernel_rfl) (by rfl) ?_ ?_
          rotate_left
          · intro W; first | (go_simp; done) | (go_simp; with_reducible rfl)
          try simp only [Act.put, List.setIfInBounds_toArray, List.set_cons_zero, List.set_cons_succ]
          refine wpF_pure (hb := .inr hB) (i := 6) (oi := { dst := some 42, op := Op.indexAddr 22 (Operand.tmp 3) (Operand.tmp 41), type := 0, pos := "ref.go:64", after := #[{ on := 5, ground := Ground.data }], guard := none }) (v := ?_) rfl (by decide) (by kernel_rfl) (by kernel_rfl) (by kernel_rfl) (by rfl) ?_ ?_
          rotate_left
          · intro W; first | (go_simp; done) | (go_simp; with_reducible rfl)
          try simp only [Act.put, List.setIfInBounds_toArray, List.set_cons_zero, List.set_cons_succ]
          refine wpF_take (hb := hB) (i := 7) (oi := { dst := some 43, op := Op.load 3 (Operand.tmp 42), type := 3, pos := "ref.go:64", after := #[{ on := 6, ground := Ground.data }], guard := none }) (v := ?_) rfl (by decide) (by kernel_rfl) (by kernel_rfl) (by kernel_rfl) (by kernel_rfl) (by kernel_rfl) (by rfl) ?_ ?_
          rotate_left
          · intro W hW; have hcW := cellB11 co9 hW; first | (go_simp; done) | (go_simp; with_reducible rfl)
          try simp only [Act.put, List.setIfInBounds_toArray, List.set_cons_zero, List.set_cons_succ]
          refine wpF_pure (hb := .inr hB) (i := 8) (oi := { dst := some 44, op := Op.move (Operand.tmp 4), type := 3, pos := "ref.go:64", after := #[], guard := none }) (v := ?_) rfl (by decide) (by kernel_rfl) (by kernel_rfl) (by kernel_rfl) (by rfl) ?_ ?_
          rotate_left
          · intro W; first | (go_simp; done) | (go_simp; with_reducible rfl)
          try simp only [Act.put, List.setIfInBounds_toArray, List.set_cons_zero, List.set_cons_succ]
          refine wpF_pure (hb := .inr hB) (i := 9) (oi := { dst := some 45, op := Op.binOp BinOp.mul 3 (Operand.const (Value.int IntKind.i64 2)) (Operand.tmp 44) 3, type := 3, pos := "ref.go:64", after := #[{ on := 8, ground := Ground.data }], guard := none }) (v := ?_) rfl (by decide) (by kernel_rfl) (by kernel_rfl) (by kernel_rfl) (by rfl) ?_ ?_
          rotate_left
          · intro W; first | (go_simp; done) | (go_simp; with_reducible rfl)
          try simp only [Act.put, List.setIfInBounds_toArray, List.set_cons_zero, List.set_cons_succ]
          refine wpF_pure (hb := .inr hB) (i := 10) (oi := { dst := some 46, op := Op.binOp BinOp.add 3 (Operand.tmp 45) (Operand.const (Value.int IntKind.i64 1)) 3, type := 3, pos := "ref.go:64", after := #[{ on := 9, ground := Ground.data }], guard := none }) (v := ?_) rfl (by decide) (by kernel_rfl) (by kernel_rfl) (by kernel_rfl) (by rfl) ?_ ?_
          rotate_left
          · intro W; first | (go_simp; done) | (go_simp; with_reducible rfl)
          try simp only [Act.put, List.setIfInBounds_toArray, List.set_cons_zero, List.set_cons_succ]
          refine wpF_pure (hb := .inr hB) (i := 11) (oi := { dst := some 47, op := Op.indexAddr 22 (Operand.tmp 1) (Operand.tmp 46), type := 0, pos := "ref.go:64", after := #[{ on := 10, ground := Ground.data }], guard := none }) (v := ?_) rfl (by decide) (by kernel_rfl) (by kernel_rfl) (by kernel_rfl) (by rfl) ?_ ?_
          rotate_left
          · intro W; first | (go_simp; done) | (go_simp; with_reducible rfl)
          try simp only [Act.put, List.setIfInBounds_toArray, List.set_cons_zero, List.set_cons_succ]
          refine wpF_take (hb := hB) (i := 12) (oi := { dst := some 48, op := Op.load 3 (Operand.tmp 47), type := 3, pos := "ref.go:64", after := #[{ on := 11, ground := Ground.data }], guard := none }) (v := ?_) rfl (by decide) (by kernel_rfl) (by kernel_rfl) (by kernel_rfl) (by kernel_rfl) (by kernel_rfl) (by rfl) ?_ ?_
          rotate_left
          · intro W hW; have hcW := cellB11 cb9 hW; first | (go_simp; done) | (go_simp; with_reducible rfl)
          try simp only [Act.put, List.setIfInBounds_toArray, List.set_cons_zero, List.set_cons_succ]
          refine wpF_pure (hb := .inr hB) (i := 13) (oi := { dst := some 49, op := Op.move (Operand.tmp 6), type := 3, pos := "ref.go:64", after := #[], guard := none }) (v := ?_) rfl (by decide) (by kernel_rfl) (by kernel_rfl) (by kernel_rfl) (by rfl) ?_ ?_
          rotate_left
          · intro W; first | (go_simp; done) | (go_simp; with_reducible rfl)
          try simp only [Act.put, List.setIfInBounds_toArray, List.set_cons_zero, List.set_cons_succ]
          refine wpF_pure (hb := .inr hB) (i := 14) (oi := { dst := some 50, op := Op.binOp BinOp.mul 3 (Operand.tmp 48) (Operand.tmp 49) 3, type := 3, pos := "ref.go:64", after := #[{ on := 12, ground := Ground.data }, { on := 13, ground := Ground.data }], guard := none }) (v := ?_) rfl (by decide) (by kernel_rfl) (by kernel_rfl) (by kernel_rfl) (by rfl) ?_ ?_
          rotate_left
          · intro W; first | (go_simp; done) | (go_simp; with_reducible rfl)
          try simp only [Act.put, List.setIfInBounds_toArray, List.set_cons_zero, List.set_cons_succ]
          refine wpF_pure (hb := .inr hB) (i := 15) (oi := { dst := some 51, op := Op.binOp BinOp.add 3 (Operand.tmp 43) (Operand.tmp 50) 3, type := 3, pos := "ref.go:64", after := #[{ on := 7, ground := Ground.data }, { on := 14, ground := Ground.data }], guard := none }) (v := ?_) rfl (by decide) (by kernel_rfl) (by kernel_rfl) (by kernel_rfl) (by rfl) ?_ ?_
          rotate_left
          · intro W; first | (go_simp; done) | (go_simp; with_reducible rfl)
          try simp only [Act.put, List.setIfInBounds_toArray, List.set_cons_zero, List.set_cons_succ]
          refine wpF_pure (hb := .inr hB) (i := 16) (oi := { dst := some 52, op := Op.binOp BinOp.rem 3 (Operand.tmp 51) (Operand.const (Value.int IntKind.i64 3329)) 3, type := 3, pos := "ref.go:64", after := #[{ on := 15, ground := Ground.data }], guard := none }) (v := ?_) rfl (by decide) (by kernel_rfl) (by kernel_rfl) (by kernel_rfl) (by rfl) ?_ ?_
          rotate_left
          · intro W; first | (go_simp; done) | (go_simp; with_reducible rfl)
          try simp only [Act.put, List.setIfInBounds_toArray, List.set_cons_zero, List.set_cons_succ]
          refine wpF_pure (hb := .inr hB) (i := 17) (oi := { dst := some 53, op := Op.indexAddr 22 (Operand.tmp 3) (Operand.tmp 38), type := 0, pos := "ref.go:64", after := #[{ on := 2, ground := Ground.data }, { on := 0, ground := Ground.phase }, { on := 1, ground := Ground.phase }, { on := 2, ground := Ground.phase }, { on := 3, ground := Ground.phase }, { on := 4, ground := Ground.phase }, { on := 5, ground := Ground.phase }, { on := 6, ground := Ground.phase }, { on := 7, ground := Ground.phase }, { on := 8, ground := Ground.phase }, { on := 9, ground := Ground.phase }, { on := 10, ground := Ground.phase }, { on := 11, ground := Ground.phase }, { on := 12, ground := Ground.phase }, { on := 13, ground := Ground.phase }, { on := 14, ground := Ground.phase }, { on := 15, ground := Ground.phase }, { on := 16, ground := Ground.phase }], guard := none }) (v := ?_) rfl (by decide) (by kernel_rfl) (by kernel_rfl) (by kernel_rfl) (by rfl) ?_ ?_
          rotate_left
          · intro W; first | (go_simp; done) | (go_simp; with_reducible rfl)
          try simp only [Act.put, List.setIfInBounds_toArray, List.set_cons_zero, List.set_cons_succ]
          refine wpF_do (i := 18) (o := { dst := none, op := Op.store 3 (Operand.tmp 53) (Operand.tmp 52), type := 0, pos := "ref.go:64", after := #[{ on := 17, ground := Ground.data }, { on := 16, ground := Ground.data }, { on := 0, ground := Ground.phase }, { on := 1, ground := Ground.phase }, { on := 2, ground := Ground.phase }, { on := 3, ground := Ground.phase }, { on := 4, ground := Ground.phase }, { on := 5, ground := Ground.phase }, { on := 6, ground := Ground.phase }, { on := 7, ground := Ground.phase }, { on := 8, ground := Ground.phase }, { on := 9, ground := Ground.phase }, { on := 10, ground := Ground.phase }, { on := 11, ground := Ground.phase }, { on := 12, ground := Ground.phase }, { on := 13, ground := Ground.phase }, { on := 14, ground := Ground.phase }, { on := 15, ground := Ground.phase }, { on := 16, ground := Ground.phase }], guard := none }) (by kernel_rfl) rfl (by rfl) fun K hK => ?_
          refine wp_store_int _ _ (by rfl) (by rfl) (v1 : Int) (by rfl) r8.drew (by rw [gI_length]; exact Q4.out) ?_
          intro w10 r10 hw10
          rw [gI_set] at r10
          refine hK.out _ _ (.inl rfl) ?_
          clear hK K
          try simp only [Act.put, List.setIfInBounds_toArray, List.set_cons_zero, List.set_cons_succ]
          refine wpF_done (by kernel_rfl) ?_
          have hw11 := hw10.ofdrew11
          have ra11 := ra9.wrote hw11 (by omega)
          have rz11 := rz9.wrote hw11 (by omega)
          have hb11 := hw11.below _ _ (by omega) hb9
          clear ra9 rz9 r8 hb9 co9 cb9 hw10 hw11
          go_wp2
          go_roundw
          case rel => exact ⟨j + 1, _, by omega, by go_num, by rw [← HV2.out], HHn, ra11, rz11, r10, hb11⟩
          case measure => simp [intOf] <;> omega
        · have hje : j = 128 := by omega
          have hdj : decide ((j : Int) < 128) = false := decide_eq_false (by omega)
          have hjI : (128 : Int) ≤ (j : Int) := by omega
          have HHn : Hid (∀ k, k < 256 → H2 k = fzF (inS a (i + 1)) k) := by
            show ∀ k, _
            intro k hk
            rw [HH.out k hk]
            simp only [fzF]
            rw [if_pos (by omega)]
          generalize (3303 * pz z j).val = K
          clear hje
          go_wp2
          go_roundw
          case rel => exact ⟨i + 1, H2, by omega, by go_num, HHn, ra, rz, ro, hbx⟩
          case measure => simp [intOf] <;> omega
    · have hie : i = 128 := by omega
      have hd : decide ((i : Int) < 128) = false := decide_eq_false (by omega)
      have hiI : (128 : Int) ≤ (i : Int) := by omega
      have HE : Hid (gI H = gI (fzF (inw a))) := by
        show _ = _
        exact gI_congr fun k hk => by rw [HH.out k hk, hie]; rfl
      clear hie
      rw [HE.out] at ro'
      go_wp2_with (first | refine wpList_load_row rfl 22 _ rfl rfl ro' _ Tryd.underlying22 rfl (poInfo _) ?_ | (refine wpList_store_row rfl 22 _ _ rfl (gI (fzF (inw a))) rfl rfl rz' (by rw [gI_length, gI_length]) (poInfo _) ?_; intro w9 r9 hw9))
      refine bodyPost_row (k := .i64) rfl rfl rfl r9 Tryd.underlying22 rfl (poInfo _) ?_
      exact ⟨by rw [HA.out], hw9.below _ _ (by omega) hbx⟩
end Go.Proofs.YtbladcgdbhogcaaDoor
