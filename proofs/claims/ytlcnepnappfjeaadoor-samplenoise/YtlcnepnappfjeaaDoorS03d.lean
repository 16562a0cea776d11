/- What Absorb of package sponge answers: the document's. -/
import Derived.Test.YtlcnepnappfjeaaDoorS03c
namespace Go.Proofs.YtlcnepnappfjeaaDoor
open Go.ChangeShapes Go.WideShapes Go.ChangeAt Go.RowKit
set_option linter.unusedSimpArgs false
set_option linter.unusedVariables false

theorem lb_las (r : Nat) (s : UInt8) (l : List UInt8) (hr : 0 < r) (k : Nat) (hk : k < r) : (lbL r s (l.drop (l.length / r * r))).getD k 0 = lasB r s l k := by
  have h0 := Nat.div_add_mod l.length r
  rw [Nat.mul_comm] at h0
  have e1 : (l.drop (l.length / r * r)).length = l.length % r := by simp; omega
  unfold lbL lasB
  rw [show ((List.range r).map (lbF r s (l.drop (l.length / r * r)))).getD k 0 = lbF r s (l.drop (l.length / r * r)) k by simp [hk]]
  unfold lbF
  rw [e1]
  congr 1
  by_cases h : k < l.length % r
  · rw [if_pos h, if_pos h]
    simp
  · rw [if_neg h, if_neg h]

/-- The state in the program's block and the tables, as the loop finds them. -/
theorem absorb_start (w : World) (cs : Array Value) (hcs : cs = ((stL fun _ => 0).map (Value.int .u64)).toArray) (t : Tabs w) :
    ∃ W, (w.alloc (.cells cs 66)).alloc (.cells cs 66) = W ∧ AI w (fun _ => 0) W := by
  subst hcs
  obtain ⟨W, hW, hI, hs⟩ := two_rows (fun _ => 0) w _ rfl t
  exact ⟨W, hW, ⟨hI.a, hI.r, hI.b, hI.t, hI.two⟩⟩

set_option maxRecDepth 100000 in
set_option maxHeartbeats 2000000 in
theorem absorb_at (r : Nat) (h1 : 1 ≤ r) (h2 : r ≤ 200) (s : UInt8) (S : Int) (hS : S = (s.toNat : Int)) (vb : Value) (l : List UInt8) (w : World) (hr : Rd w vb l) (ht : Tabs w) :
    Calls Tryd.prog 61 #[.int .i64 (r : Int), .int .u8 S, vb] w fun e w' => e = .returned (arrV (tkF (fuN r l (l.length / r)) (lasB r s l) r)) ∧ Below w.heap.size w w' := by
  subst hS
  obtain ⟨a, cap, rfl, h3, h4, h5, -⟩ := id hr
  have hmx := hr.len
  unfold maxLen at h4
  have HR : Hid (Rd w (.slice a l.length cap) l) := hr
  clear hr
  obtain ⟨q, hq⟩ : ∃ q : Nat, q = l.length / r := ⟨_, rfl⟩
  have hqr : q * r ≤ l.length := by rw [hq]; exact Nat.div_mul_le_self _ _
  have hqm : l.length - q * r < r := by
    have e0 := Nat.div_add_mod l.length r
    have e1 := Nat.mod_lt l.length (show 0 < r by omega)
    rw [Nat.mul_comm, ← hq] at e0
    omega
  have hq1 : q ≤ l.length := Nat.le_trans (Nat.le_mul_of_pos_right q (by omega)) hqr
  have q3 : ((l.length : Int)).tdiv (r : Int) = (q : Int) := by rw [Int.tdiv_eq_ediv_of_nonneg (by omega), hq]; rfl
  have q4 : IntKind.i64.wrap (q : Int) = (q : Int) := IntWalk.i64_in _ (by omega)
  have d1 : decide ((r : Int) < 1) = false := decide_eq_false (by omega)
  have d2 : decide ((200 : Int) < (r : Int)) = false := decide_eq_false (by omega)
  have g1 : (1 : Int) ≤ r := by omega
  have g2 : (r : Int) ≤ 200 := by omega
  have g3 : ¬ (r : Int) = 0 := by omega
  rw [← hq]
  have HQ : Hid (q = l.length / r) := hq
  clear hq
  go_enter Tryd.func61, Tryd.ntmps61
  go_wp2
  obtain ⟨W, hW, hI⟩ := absorb_start w _ zeros25 ht
  rw [hW]
  clear hW ht q3 q4 d1 d2
  go_loopw [19, 2] (fun i b wr => ∃ j : Nat, j ≤ q ∧ i = .int .i64 j ∧ Rd w b (l.drop (j * r)) ∧ AI w (fuN r l j) wr) (fun i _ _ => q - (intOf i).toNat)
  case atStart => exact ⟨0, by omega, rfl, by rw [Nat.zero_mul, List.drop_zero]; exact HR.out, hI⟩
  case round =>
    obtain ⟨j, hj, rfl, hR, hI2⟩ := hrel
    clear hI HR
    obtain ⟨a2, cap2, rfl, k2, k3, k4, -⟩ := id hR
    obtain ⟨n, hn⟩ : ∃ n : Nat, n = (l.drop (j * r)).length := ⟨_, rfl⟩
    have hjr : j * r ≤ q * r := Nat.mul_le_mul_right r hj
    have hn' : n = l.length - j * r := by rw [hn, List.length_drop]
    rw [← hn] at hR k2 ⊢
    unfold maxLen at k3
    have HN : Hid (n = (l.drop (j * r)).length) := hn
    have HN' : Hid (n = l.length - j * r) := hn'
    have hnr : n + j * r = l.length := by omega
    have HNR : Hid (n + j * r = l.length) := hnr
    clear hn hn'
    by_cases hlt : j < q
    · have hd : decide ((j : Int) < (q : Int)) = true := decide_eq_true (by omega)
      have hjq : (j : Int) < q := by omega
      have hjr1 : (j + 1) * r ≤ q * r := Nat.mul_le_mul_right r hlt
      rw [Nat.add_mul, Nat.one_mul] at hjr1
      have hrn : r ≤ n := by omega
      clear hnr
      obtain ⟨b, off, rfl⟩ : ∃ b off, a2 = some ⟨b, off, none⟩ := by
        obtain ⟨b, off, cp, e1, _⟩ := hR.cellAt (i := 0) (by rw [← HN.out]; omega)
        simp only [Value.slice.injEq] at e1
        exact ⟨b, off, e1.1⟩
      have hT := (hR.kept hI2.b).take (n := r) hrn
      have hlen : ((l.drop (j * r)).take r).length = r := by rw [List.length_take, ← HN.out]; omega
      have HT : Hid (arrV (tkF (fuN r l j) (fun k => ((l.drop (j * r)).take r).getD k 0) ((l.drop (j * r)).take r).length) = arrV (fuN r l (j + 1))) := by
        rw [hlen]
        exact arrV_congr (tkF_congr r (fun _ _ => rfl) fun k hk => by simp [hk])
      have hP := hR.rest r hrn
      rw [List.drop_drop, show j * r + r = (j + 1) * r by rw [Nat.add_mul, Nat.one_mul]] at hP
      have HP : Hid _ := hP
      have hrc : (r : Int) ≤ cap2 := by omega
      have hrnI : (r : Int) ≤ n := by omega
      have r1 := hI2.r
      clear hR hP
      go_wp2_with fail
      refine wpE_begin 5 (by kernel_rfl) ?_
      refine wpE_take (i := 0) (oi := { dst := some 21, op := Op.load 66 (Operand.tmp 7), type := 66, pos := "sponge.go:44", after := #[], guard := none }) (v := ?_) rfl (by decide) (by kernel_rfl) (by kernel_rfl) (by kernel_rfl) (by kernel_rfl) (by rfl) ?_ ?_
      rotate_left
      · intro W hW; refine Eq.trans (exec_load_row 66 _ (by rfl) (by rfl) r1 hW _ Tryd.underlying66 rfl (arrInfo _)) ?_; with_reducible rfl
      try simp only [Act.put, List.setIfInBounds_toArray, List.set_cons_zero, List.set_cons_succ]
      refine wpE_take (i := 1) (oi := { dst := some 22, op := Op.move (Operand.tmp 2), type := 22, pos := "sponge.go:44", after := #[], guard := none }) (v := ?_) rfl (by decide) (by kernel_rfl) (by kernel_rfl) (by kernel_rfl) (by kernel_rfl) (by rfl) ?_ ?_
      rotate_left
      · intro W hW; first | (go_simp; done) | (go_simp; with_reducible rfl)
      try simp only [Act.put, List.setIfInBounds_toArray, List.set_cons_zero, List.set_cons_succ]
      refine wpE_take (i := 2) (oi := { dst := some 23, op := Op.move (Operand.tmp 0), type := 3, pos := "sponge.go:44", after := #[], guard := none }) (v := ?_) rfl (by decide) (by kernel_rfl) (by kernel_rfl) (by kernel_rfl) (by kernel_rfl) (by rfl) ?_ ?_
      rotate_left
      · intro W hW; first | (go_simp; done) | (go_simp; with_reducible rfl)
      try simp only [Act.put, List.setIfInBounds_toArray, List.set_cons_zero, List.set_cons_succ]
      refine wpE_take (i := 3) (oi := { dst := some 24, op := Op.slice 22 (Operand.tmp 22) none (some (Operand.tmp 23)) none, type := 22, pos := "sponge.go:44", after := #[{ on := 1, ground := Ground.data }, { on := 2, ground := Ground.data }], guard := none }) (v := ?_) rfl (by decide) (by kernel_rfl) (by kernel_rfl) (by kernel_rfl) (by kernel_rfl) (by rfl) ?_ ?_
      rotate_left
      · intro W hW; first | (go_simp; done) | (go_simp; with_reducible rfl)
      try simp only [Act.put, List.setIfInBounds_toArray, List.set_cons_zero, List.set_cons_succ]
      refine wpE_do (i := 4) (o := { dst := some 25, op := Op.call { callee := Callee.value (Operand.func 65), args := #[Operand.tmp 21, Operand.tmp 24], argTypes := #[66, 22] }, type := 66, pos := "sponge.go:44", after := #[{ on := 0, ground := Ground.data }, { on := 3, ground := Ground.data }], guard := none }) (by kernel_rfl) rfl (by rfl) fun K hK => ?_
      go_simp
      refine (take_any _ (fuN r l j) (fuN_lt r l j) rfl _ _ (by rw [hlen]; omega) _ hT.drew hI2.drew.t).mono ?_
      rintro e w2 ⟨rfl, hB2⟩
      refine hK.out _ _ hB2 ?_
      clear hK K
      have hI3 := hI2.drew.kept hB2
      have r3 := hI3.r
      rw [HT.out]
      try simp only [Act.put, List.setIfInBounds_toArray, List.set_cons_zero, List.set_cons_succ]
      refine wpE_last (o := { dst := none, op := Op.store 66 (Operand.tmp 7) (Operand.tmp 25), type := 0, pos := "sponge.go:44", after := #[{ on := 4, ground := Ground.data }, { on := 4, ground := Ground.chain }, { on := 0, ground := Ground.phase }, { on := 1, ground := Ground.phase }, { on := 2, ground := Ground.phase }, { on := 3, ground := Ground.phase }, { on := 4, ground := Ground.phase }], guard := none }) (by kernel_rfl) (by kernel_rfl) rfl (by rfl) fun K hK => ?_
      refine wp_store_row 66 _ _ (by rfl) (stL (fuN r l (j + 1))) (by rfl) (by rfl) r3 (by simp [stL_length]) (arrInfo _) ?_
      intro w4 r4 hw4
      refine hK.out _ _ ?_
      clear hK K
      try simp only [Act.put, List.setIfInBounds_toArray, List.set_cons_zero, List.set_cons_succ]
      have hI4 := hI3.whole r4 hw4
      clear r1 r3 r4 hw4 hI2 hI3 hB2 hT
      by_cases hcr : cap2 = r
      · have hcrI : (cap2 : Int) = r := by omega
        rw [if_pos hcr, hcr, Nat.sub_self] at HP
        go_wp2
        go_roundw
        case rel => exact ⟨j + 1, by omega, by go_num, HP.out, hI4⟩
        case measure => simp [intOf]; omega
      · rw [if_neg hcr] at HP
        go_wp2
        go_roundw
        case rel => exact ⟨j + 1, by omega, by go_num, HP.out, hI4⟩
        case measure => simp [intOf]; omega
    · have hje : j = q := by omega
      have hd : decide ((j : Int) < (q : Int)) = false := decide_eq_false (by omega)
      have hjq : (q : Int) ≤ j := by omega
      have HJ : Hid (j = q) := hje
      have hR1 := hR.kept hI2.b
      have hln : (l.drop (j * r)).length < r := by rw [← HN.out, HN'.out, hje]; exact hqm
      have r1 := hI2.r
      clear hje hR hnr
      go_wp2_with fail
      refine wpE_begin 6 (by kernel_rfl) ?_
      refine wpE_take (i := 0) (oi := { dst := some 30, op := Op.load 66 (Operand.tmp 7), type := 66, pos := "sponge.go:47", after := #[], guard := none }) (v := ?_) rfl (by decide) (by kernel_rfl) (by kernel_rfl) (by kernel_rfl) (by kernel_rfl) (by rfl) ?_ ?_
      rotate_left
      · intro W hW; refine Eq.trans (exec_load_row 66 _ (by rfl) (by rfl) r1 hW _ Tryd.underlying66 rfl (arrInfo _)) ?_; with_reducible rfl
      try simp only [Act.put, List.setIfInBounds_toArray, List.set_cons_zero, List.set_cons_succ]
      refine wpE_take (i := 1) (oi := { dst := some 31, op := Op.move (Operand.tmp 0), type := 3, pos := "sponge.go:47", after := #[], guard := none }) (v := ?_) rfl (by decide) (by kernel_rfl) (by kernel_rfl) (by kernel_rfl) (by kernel_rfl) (by rfl) ?_ ?_
      rotate_left
      · intro W hW; first | (go_simp; done) | (go_simp; with_reducible rfl)
      try simp only [Act.put, List.setIfInBounds_toArray, List.set_cons_zero, List.set_cons_succ]
      refine wpE_take (i := 2) (oi := { dst := some 32, op := Op.move (Operand.tmp 1), type := 5, pos := "sponge.go:47", after := #[], guard := none }) (v := ?_) rfl (by decide) (by kernel_rfl) (by kernel_rfl) (by kernel_rfl) (by kernel_rfl) (by rfl) ?_ ?_
      rotate_left
      · intro W hW; first | (go_simp; done) | (go_simp; with_reducible rfl)
      try simp only [Act.put, List.setIfInBounds_toArray, List.set_cons_zero, List.set_cons_succ]
      refine wpE_take (i := 3) (oi := { dst := some 33, op := Op.move (Operand.tmp 2), type := 22, pos := "sponge.go:47", after := #[], guard := none }) (v := ?_) rfl (by decide) (by kernel_rfl) (by kernel_rfl) (by kernel_rfl) (by kernel_rfl) (by rfl) ?_ ?_
      rotate_left
      · intro W hW; first | (go_simp; done) | (go_simp; with_reducible rfl)
      try simp only [Act.put, List.setIfInBounds_toArray, List.set_cons_zero, List.set_cons_succ]
      refine wpE_do (i := 4) (o := { dst := some 34, op := Op.call { callee := Callee.value (Operand.func 66), args := #[Operand.tmp 31, Operand.tmp 32, Operand.tmp 33], argTypes := #[3, 5, 22] }, type := 22, pos := "sponge.go:47", after := #[{ on := 1, ground := Ground.data }, { on := 2, ground := Ground.data }, { on := 3, ground := Ground.data }], guard := none }) (by kernel_rfl) rfl (by rfl) fun K hK => ?_
      go_simp
      refine (lastBlock_any r h2 s _ rfl _ (l.drop (j * r)) hln _ hR1.drew).mono ?_
      rintro e w2 ⟨v2, rfl, hN2⟩
      refine hK.out _ _ hN2.2 ?_
      clear hK K
      have hI3 := hI2.drew.kept hN2.2
      have hR2 := hN2.rd
      try simp only [Act.put, List.setIfInBounds_toArray, List.set_cons_zero, List.set_cons_succ]
      refine wpE_do (i := 5) (o := { dst := some 35, op := Op.call { callee := Callee.value (Operand.func 65), args := #[Operand.tmp 30, Operand.tmp 34], argTypes := #[66, 22] }, type := 66, pos := "sponge.go:47", after := #[{ on := 0, ground := Ground.data }, { on := 4, ground := Ground.data }, { on := 4, ground := Ground.chain }], guard := none }) (by kernel_rfl) rfl (by rfl) fun K hK => ?_
      go_simp
      refine (take_any _ (fuN r l j) (fuN_lt r l j) rfl _ _ (by rw [lbL_length]; exact h2) _ hR2 hI3.t).mono ?_
      rintro e w3 ⟨rfl, hB3⟩
      refine hK.out _ _ hB3 ?_
      clear hK K
      have hI4 := hI3.kept hB3
      have r3 := hI4.a
      try simp only [Act.put, List.setIfInBounds_toArray, List.set_cons_zero, List.set_cons_succ]
      refine wpE_last (o := { dst := none, op := Op.store 66 (Operand.tmp 6) (Operand.tmp 35), type := 0, pos := "sponge.go:47", after := #[{ on := 5, ground := Ground.data }, { on := 5, ground := Ground.chain }, { on := 0, ground := Ground.phase }, { on := 1, ground := Ground.phase }, { on := 2, ground := Ground.phase }, { on := 3, ground := Ground.phase }, { on := 4, ground := Ground.phase }, { on := 5, ground := Ground.phase }], guard := none }) (by kernel_rfl) (by kernel_rfl) rfl (by rfl) fun K hK => ?_
      refine wp_store_row 66 _ _ (by rfl) _ (by rfl) (by rfl) r3 (by simp [stL_length]) (arrInfo _) ?_
      intro w4 r4 hw4
      refine hK.out _ _ ?_
      clear hK K
      try simp only [Act.put, List.setIfInBounds_toArray, List.set_cons_zero, List.set_cons_succ]
      have hb4 := hw4.below _ _ (Nat.le_refl _) hI4.b
      go_wp2_with fail
      refine bodyPost_row (p := 6) (ty := 66) rfl rfl rfl r4 Tryd.underlying66 rfl (arrInfo _) ?_
      refine ⟨?_, hb4⟩
      rw [HJ.out, lbL_length]
      refine congrArg Ending.returned (arrV_congr (tkF_congr r (fun _ _ => rfl) fun k hk => ?_))
      rw [HQ.out]
      exact lb_las r s l (by omega) k hk

/-- Absorb, at any rate. -/
theorem absorb_any (R S : Int) (s : UInt8) (hS : S = (s.toNat : Int)) (vb : Value) (l : List UInt8) (w : World) (hr : Rd w vb l) (ht : Tabs w) :
    Calls Tryd.prog 61 #[.int .i64 R, .int .u8 S, vb] w fun e w' => e = .returned (arrV (abF R s l)) ∧ Below w.heap.size w w' := by
  by_cases h : 1 ≤ R ∧ R ≤ 200
  · obtain ⟨r, rfl⟩ : ∃ r : Nat, R = r := ⟨R.toNat, by omega⟩
    have e : arrV (abF (r : Int) s l) = arrV (tkF (fuN r l (l.length / r)) (lasB r s l) r) := by
      unfold abF
      rw [if_pos h, Int.toNat_natCast]
      exact arrV_congr fun k hk => abs_eq r s l (by omega) k hk
    rw [e]
    exact absorb_at r (by omega) (by omega) s S hS vb l w hr ht
  · have e : abF R s l = fun _ => 0 := by unfold abF; rw [if_neg h]
    rw [e]
    exact absorb_zero R S h vb w
end Go.Proofs.YtlcnepnappfjeaaDoor
