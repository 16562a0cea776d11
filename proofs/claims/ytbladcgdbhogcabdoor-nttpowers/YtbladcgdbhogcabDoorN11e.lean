/- A polynomial crossed block by block: contracts of package ntt, fifth part. -/
import Derived.Test.YtbladcgdbhogcabDoorN11d
namespace Go.Proofs.YtbladcgdbhogcabDoor
open Go.ChangeShapes Go.WideShapes Go.ChangeAt Go.RowKit
set_option linter.unusedSimpArgs false
set_option linter.unusedVariables false

theorem half_facts {h : Nat} (hh : Hf h) : ∃ d n : Nat, d = 2 * h ∧ n = 256 / (2 * h) ∧ IntKind.i64.wrap (2 * (h : Int)) = (d : Int) ∧ Int.tdiv 256 (d : Int) = (n : Int) ∧ IntKind.i64.wrap (n : Int) = (n : Int) ∧ ((d : Int) == 0) = false ∧ 0 < d ∧ n ≤ 64 ∧ h ≤ 128 ∧ 0 < h := by
  refine ⟨2 * h, 256 / (2 * h), rfl, rfl, ?_⟩
  unfold Hf at hh
  rcases hh with rfl | rfl | rfl | rfl | rfl | rfl | rfl <;> decide
theorem start_facts {h b d n : Nat} (hh : Hf h) (hd : d = 2 * h) (hn : n = 256 / (2 * h)) (hb : b < n) : ∃ s : Nat, s = 2 * h * b ∧ s + h ≤ 256 ∧ IntKind.i64.wrap ((d : Int) * (b : Int)) = (s : Int) ∧ IntKind.i64.wrap ((s : Int) + (h : Int)) = ((s + h : Nat) : Int) := by
  subst hd hn
  have h0 := (xd_pair hh hb (j := 0) (by unfold Hf at hh; omega)).1
  have e : ((2 * h : Nat) : Int) * (b : Int) = ((2 * h * b : Nat) : Int) := by simp
  refine ⟨2 * h * b, rfl, by omega, ?_, ?_⟩
  · rw [e]
    exact IntWalk.i64_in _ (by omega)
  · rw [IntWalk.i64_in _ (by omega)]
    omega

set_option maxRecDepth 100000 in
set_option maxHeartbeats 4000000 in
theorem crossed_any (KZ KC : FuncId) (cz : Array Value) (A : Array Value) (F : Nat → FZ) (hA : A = ((gI (fzF F)).map (Value.int .i64)).toArray) (h : Nat) (hh : Hf h) (Z : Nat → FZ) (C1 C2 : FZ → FZ → FZ → FZ) (w : World)
    (hEz : ∀ (args : Array Value) (w : World), (callFunc KZ args).run Tryd.prog w = .ok (.enter KZ args) w)
    (hEc : ∀ (args : Array Value) (w : World), (callFunc KC args).run Tryd.prog w = .ok (.enter KC args) w)
    (hZ : ∀ b : Nat, b < 256 / (2 * h) → ∀ W, Below w.heap.size w W → Calls Tryd.prog KZ (#[Value.int .i64 (b : Int)] ++ cz) W fun e w' => e = .returned (.int .i64 (((Z b).val : Nat) : Int)) ∧ Below W.heap.size W w')
    (hC : ∀ (z a b : FZ) (W : World), Calls Tryd.prog KC #[.int .i64 ((z.val : Nat) : Int), .int .i64 ((a.val : Nat) : Int), .int .i64 ((b.val : Nat) : Int)] W fun e w' => e = .returned (prV (C1 z a b) (C2 z a b)) ∧ Below W.heap.size W w') :
    Calls Tryd.prog 17 #[.agg A, .int .i64 (h : Int), .func (.func KZ) #[] cz, .func (.func KC) #[] #[]] w fun e w' => e = .returned (poV (xg h Z C1 C2 F)) ∧ Below w.heap.size w w' := by
  have HZ : Hid _ := hZ
  have HC : Hid _ := hC
  have HH : Hid (Hf h) := hh
  obtain ⟨d, n, hd, hn, c1, c2, c3, c4, c5, c6, c7, c8⟩ := half_facts hh
  have HD : Hid (d = 2 * h) := hd
  have HN : Hid (n = 256 / (2 * h)) := hn
  clear hZ hC hh hd hn
  go_enter Tryd.func17, Tryd.ntmps17
  go_wp2_with (refine wpList_box_row (k := .i64) rfl 24 _ rfl (gI (fzF F)) (by rw [← hA]; rfl) (gI_ne _) (poMax _) ?_)
  intro w1 ra b1 s1
  rw [gI_length] at ra
  have hbw := b1
  have n1 : w.heap.size < w1.heap.size := by have := s1.out; omega
  clear b1 s1 hA
  go_wp2_with (refine wpList_alloc_row (k := .i64) rfl 24 rfl (gI fun _ => 0) (alloc_poA _) (gI_ne _) (poMax _) ?_)
  intro w2 rz b2 s2
  rw [gI_length] at rz
  replace ra := ra.kept b2
  replace hbw := stepB hbw b2
  clear b2 s2
  go_wp2
  go_loopw [16] (fun bv wx => ∃ (b : Nat) (G : Nat → Int), b ≤ n ∧ bv = .int .i64 (b : Int) ∧ Hid (Xs h Z C1 C2 F b 0 G) ∧ RowAt .i64 24 w.heap.size 256 (gI G) wx ∧ RowAt .i64 24 w1.heap.size 256 (gI fun _ => 0) wx ∧ Below w.heap.size w wx) (fun bv _ => n - (intOf bv).toNat)
  case atStart => exact ⟨0, fzF F, by omega, rfl, Xs.start h Z C1 C2 F, ra, rz, hbw⟩
  case round =>
    obtain ⟨b, G, hb, rfl, HG, ra1, rz1, hbx⟩ := hrel
    clear ra rz hbw
    by_cases hlt : b < n
    · have hdb : decide ((b : Int) < (n : Int)) = true := decide_eq_true (by omega)
      have hbI : (b : Int) < (n : Int) := by omega
      obtain ⟨s, hs, sl, x1, x2⟩ := start_facts HH.out HD.out HN.out hlt
      have HS : Hid (s = 2 * h * b) := hs
      have HLT : Hid (b < 256 / (2 * h)) := by show _ < _; rw [← HN.out]; exact hlt
      clear hs
      go_wp2_with fail
      refine (HZ.out b HLT.out _ hbx).mono ?_
      rintro e w3 ⟨rfl, b3⟩
      replace ra1 := ra1.kept b3
      replace rz1 := rz1.kept b3
      replace hbx := stepB hbx b3
      clear b3
      obtain ⟨z, hz⟩ : ∃ z : FZ, z = Z b := ⟨_, rfl⟩
      rw [← hz]
      have HZB : Hid (z = Z b) := hz
      clear hz
      obtain ⟨t, ht⟩ : ∃ t : Nat, t = s + h := ⟨_, rfl⟩
      rw [← ht] at x2
      have HT : Hid (t = s + h) := ht
      clear ht
      go_wp2
      go_loopw [12] (fun iv wx => ∃ (j i : Nat) (G : Nat → Int), j ≤ h ∧ i = s + j ∧ iv = .int .i64 (i : Int) ∧ Hid (Xs h Z C1 C2 F b j G) ∧ RowAt .i64 24 w.heap.size 256 (gI G) wx ∧ RowAt .i64 24 w1.heap.size 256 (gI fun _ => 0) wx ∧ Below w.heap.size w wx) (fun iv _ => s + h - (intOf iv).toNat)
      case atStart => exact ⟨0, s, G, by omega, rfl, rfl, HG, ra1, rz1, hbx⟩
      case round =>
        obtain ⟨j, i, G2, hj, hij, rfl, HG2, ra2, rz2, hby⟩ := hrel
        have HIJ : Hid (i = s + j) := hij
        clear ra1 rz1 hbx HG hij
        by_cases hlj : j < h
        · have hil : i < t := by have := HIJ.out; have := HT.out; omega
          have hdi : decide ((i : Int) < (t : Int)) = true := decide_eq_true (by omega)
          have hiI : (i : Int) < (t : Int) := by omega
          obtain ⟨k, hk⟩ : ∃ k : Nat, k = i + h := ⟨_, rfl⟩
          have HP : Hid (k < 256 ∧ i = 2 * h * b + j) := by
            show _ ∧ _
            have h1 := xd_pair HH.out HLT.out hlj
            have h2 := HS.out
            have h3 := HIJ.out
            omega
          have hi6 : i < 256 := by have := HP.out.1; omega
          have hk6 := HP.out.1
          have hi6I : (i : Int) < 256 := by omega
          have hk6I : (k : Int) < 256 := by omega
          have x3 : IntKind.i64.wrap ((i : Int) + (h : Int)) = (k : Int) := by rw [IntWalk.i64_in _ (by omega)]; omega
          have hca := ra2.cell (j := i) (by rw [gI_length]; exact hi6)
          have hcb := ra2.cell (j := k) (by rw [gI_length]; exact hk6)
          rw [gI_get _ hi6, HP.out.2, HG2.out.low HH.out HLT.out hlj, ← HP.out.2] at hca
          rw [gI_get _ hk6, hk, HP.out.2, HG2.out.high HH.out HLT.out hlj, ← HP.out.2, ← hk] at hcb
          have HK : Hid (k = i + h) := hk
          unfold fzF at hca hcb
          have HNX2 : Hid (Xs h Z C1 C2 F b (j + 1) (fun p => if p = k then (((C2 z (F i) (F k)).val : Nat) : Int) else if p = i then (((C1 z (F i) (F k)).val : Nat) : Int) else G2 p)) :=
            HG2.out.put HH.out HLT.out hlj HP.out.2 HK.out (by rw [HZB.out]) (by rw [HZB.out])
          clear hk
          go_wp2_with fail
          have hB : Below wr.heap.size wr wr.drew := (Below.refl _ _).drew
          refine wpF_begin 19 (w0 := wr) (by kernel_rfl) ?_
          refine wpF_pure (hb := .inr hB) (i := 0) (oi := { dst := some 35, op := Op.move (Operand.tmp 12), type := 3, pos := "ntt.go:53", after := #[], guard := none }) (v := ?_) rfl (by decide) (by kernel_rfl) (by kernel_rfl) (by kernel_rfl) (by rfl) ?_ ?_
          rotate_left
          · intro W; first | (go_simp; done) | (go_simp; with_reducible rfl)
          try simp only [Act.put, List.setIfInBounds_toArray, List.set_cons_zero, List.set_cons_succ]
          refine wpF_pure (hb := .inr hB) (i := 1) (oi := { dst := some 36, op := Op.move (Operand.tmp 12), type := 3, pos := "ntt.go:53", after := #[{ on := 19, ground := Ground.gcOnly Departure.lateStores }], guard := none }) (v := ?_) rfl (by decide) (by kernel_rfl) (by kernel_rfl) (by kernel_rfl) (by rfl) ?_ ?_
          rotate_left
          · intro W; first | (go_simp; done) | (go_simp; with_reducible rfl)
          try simp only [Act.put, List.setIfInBounds_toArray, List.set_cons_zero, List.set_cons_succ]
          refine wpF_pure (hb := .inr hB) (i := 2) (oi := { dst := some 37, op := Op.move (Operand.tmp 1), type := 3, pos := "ntt.go:53", after := #[{ on := 19, ground := Ground.gcOnly Departure.lateStores }], guard := none }) (v := ?_) rfl (by decide) (by kernel_rfl) (by kernel_rfl) (by kernel_rfl) (by rfl) ?_ ?_
          rotate_left
          · intro W; first | (go_simp; done) | (go_simp; with_reducible rfl)
          try simp only [Act.put, List.setIfInBounds_toArray, List.set_cons_zero, List.set_cons_succ]
          refine wpF_pure (hb := .inr hB) (i := 3) (oi := { dst := some 38, op := Op.binOp BinOp.add 3 (Operand.tmp 36) (Operand.tmp 37) 3, type := 3, pos := "ntt.go:53", after := #[{ on := 1, ground := Ground.data }, { on := 2, ground := Ground.data }, { on := 19, ground := Ground.gcOnly Departure.lateStores }], guard := none }) (v := ?_) rfl (by decide) (by kernel_rfl) (by kernel_rfl) (by kernel_rfl) (by rfl) ?_ ?_
          rotate_left
          · intro W; first | (go_simp; done) | (go_simp; with_reducible rfl)
          try simp only [Act.put, List.setIfInBounds_toArray, List.set_cons_zero, List.set_cons_succ]
          refine wpF_pure (hb := .inr hB) (i := 4) (oi := { dst := some 39, op := Op.move (Operand.tmp 3), type := 32, pos := "ntt.go:53", after := #[], guard := none }) (v := ?_) rfl (by decide) (by kernel_rfl) (by kernel_rfl) (by kernel_rfl) (by rfl) ?_ ?_
          rotate_left
          · intro W; first | (go_simp; done) | (go_simp; with_reducible rfl)
          try simp only [Act.put, List.setIfInBounds_toArray, List.set_cons_zero, List.set_cons_succ]
          refine wpF_pure (hb := .inr hB) (i := 5) (oi := { dst := some 40, op := Op.move (Operand.tmp 10), type := 3, pos := "ntt.go:53", after := #[], guard := none }) (v := ?_) rfl (by decide) (by kernel_rfl) (by kernel_rfl) (by kernel_rfl) (by rfl) ?_ ?_
          rotate_left
          · intro W; first | (go_simp; done) | (go_simp; with_reducible rfl)
          try simp only [Act.put, List.setIfInBounds_toArray, List.set_cons_zero, List.set_cons_succ]
          refine wpF_pure (hb := .inr hB) (i := 6) (oi := { dst := some 41, op := Op.move (Operand.tmp 12), type := 3, pos := "ntt.go:53", after := #[], guard := none }) (v := ?_) rfl (by decide) (by kernel_rfl) (by kernel_rfl) (by kernel_rfl) (by rfl) ?_ ?_
          rotate_left
          · intro W; first | (go_simp; done) | (go_simp; with_reducible rfl)
          try simp only [Act.put, List.setIfInBounds_toArray, List.set_cons_zero, List.set_cons_succ]
          refine wpF_pure (hb := .inr hB) (i := 7) (oi := { dst := some 42, op := Op.indexAddr 24 (Operand.tmp 4) (Operand.tmp 41), type := 0, pos := "ntt.go:53", after := #[{ on := 6, ground := Ground.data }], guard := none }) (v := ?_) rfl (by decide) (by kernel_rfl) (by kernel_rfl) (by kernel_rfl) (by rfl) ?_ ?_
          rotate_left
          · intro W; first | (go_simp; done) | (go_simp; with_reducible rfl)
          try simp only [Act.put, List.setIfInBounds_toArray, List.set_cons_zero, List.set_cons_succ]
          refine wpF_take (hb := hB) (i := 8) (oi := { dst := some 43, op := Op.load 3 (Operand.tmp 42), type := 3, pos := "ntt.go:53", after := #[{ on := 7, ground := Ground.data }], guard := none }) (v := ?_) rfl (by decide) (by kernel_rfl) (by kernel_rfl) (by kernel_rfl) (by kernel_rfl) (by kernel_rfl) (by rfl) ?_ ?_
          rotate_left
          · intro W hW; have hcW := cellB11 hca hW; first | (go_simp; done) | (go_simp; with_reducible rfl)
          try simp only [Act.put, List.setIfInBounds_toArray, List.set_cons_zero, List.set_cons_succ]
          refine wpF_pure (hb := .inr hB) (i := 9) (oi := { dst := some 44, op := Op.move (Operand.tmp 12), type := 3, pos := "ntt.go:53", after := #[], guard := none }) (v := ?_) rfl (by decide) (by kernel_rfl) (by kernel_rfl) (by kernel_rfl) (by rfl) ?_ ?_
          rotate_left
          · intro W; first | (go_simp; done) | (go_simp; with_reducible rfl)
          try simp only [Act.put, List.setIfInBounds_toArray, List.set_cons_zero, List.set_cons_succ]
          refine wpF_pure (hb := .inr hB) (i := 10) (oi := { dst := some 45, op := Op.move (Operand.tmp 1), type := 3, pos := "ntt.go:53", after := #[], guard := none }) (v := ?_) rfl (by decide) (by kernel_rfl) (by kernel_rfl) (by kernel_rfl) (by rfl) ?_ ?_
          rotate_left
          · intro W; first | (go_simp; done) | (go_simp; with_reducible rfl)
          try simp only [Act.put, List.setIfInBounds_toArray, List.set_cons_zero, List.set_cons_succ]
          refine wpF_pure (hb := .inr hB) (i := 11) (oi := { dst := some 46, op := Op.binOp BinOp.add 3 (Operand.tmp 44) (Operand.tmp 45) 3, type := 3, pos := "ntt.go:53", after := #[{ on := 9, ground := Ground.data }, { on := 10, ground := Ground.data }], guard := none }) (v := ?_) rfl (by decide) (by kernel_rfl) (by kernel_rfl) (by kernel_rfl) (by rfl) ?_ ?_
          rotate_left
          · intro W; first | (go_simp; done) | (go_simp; with_reducible rfl)
          try simp only [Act.put, List.setIfInBounds_toArray, List.set_cons_zero, List.set_cons_succ]
          refine wpF_pure (hb := .inr hB) (i := 12) (oi := { dst := some 47, op := Op.indexAddr 24 (Operand.tmp 4) (Operand.tmp 46), type := 0, pos := "ntt.go:53", after := #[{ on := 11, ground := Ground.data }], guard := none }) (v := ?_) rfl (by decide) (by kernel_rfl) (by kernel_rfl) (by kernel_rfl) (by rfl) ?_ ?_
          rotate_left
          · intro W; first | (go_simp; done) | (go_simp; with_reducible rfl)
          try simp only [Act.put, List.setIfInBounds_toArray, List.set_cons_zero, List.set_cons_succ]
          refine wpF_take (hb := hB) (i := 13) (oi := { dst := some 48, op := Op.load 3 (Operand.tmp 47), type := 3, pos := "ntt.go:53", after := #[{ on := 12, ground := Ground.data }], guard := none }) (v := ?_) rfl (by decide) (by kernel_rfl) (by kernel_rfl) (by kernel_rfl) (by kernel_rfl) (by kernel_rfl) (by rfl) ?_ ?_
          rotate_left
          · intro W hW; have hcW := cellB11 hcb hW; first | (go_simp; done) | (go_simp; with_reducible rfl)
          try simp only [Act.put, List.setIfInBounds_toArray, List.set_cons_zero, List.set_cons_succ]
          refine wpF_do (i := 14) (o := { dst := some 49, op := Op.call { callee := Callee.value (Operand.tmp 39), args := #[Operand.tmp 40, Operand.tmp 43, Operand.tmp 48], argTypes := #[3, 3, 3] }, type := 35, pos := "ntt.go:53", after := #[{ on := 4, ground := Ground.data }, { on := 5, ground := Ground.data }, { on := 8, ground := Ground.data }, { on := 13, ground := Ground.data }], guard := none }) (by kernel_rfl) rfl (by rfl) fun K hK => ?_
          go_simp
          refine (HC.out z (F i) (F k) _).mono ?_
          rintro e w5 ⟨rfl, b5⟩
          replace hB := stepB hB b5
          have r5 := ra2.drew.kept b5
          refine hK.out _ _ (.inr hB) ?_
          clear hK K
          try simp only [Act.put, List.setIfInBounds_toArray, List.set_cons_zero, List.set_cons_succ]
          refine wpF_pure (hb := .inr hB) (i := 15) (oi := { dst := some 34, op := Op.move (Operand.tmp 49), type := 35, pos := "ntt.go:53", after := #[{ on := 14, ground := Ground.data }], guard := none }) (v := ?_) rfl (by decide) (by kernel_rfl) (by kernel_rfl) (by kernel_rfl) (by rfl) ?_ ?_
          rotate_left
          · intro W; first | (go_simp; done) | (go_simp; with_reducible rfl)
          try simp only [Act.put, List.setIfInBounds_toArray, List.set_cons_zero, List.set_cons_succ]
          refine wpF_pure (hb := .inr hB) (i := 16) (oi := { dst := some 50, op := Op.extract (Operand.tmp 34) 0, type := 3, pos := "ntt.go:53", after := #[{ on := 15, ground := Ground.data }], guard := none }) (v := ?_) rfl (by decide) (by kernel_rfl) (by kernel_rfl) (by kernel_rfl) (by rfl) ?_ ?_
          rotate_left
          · intro W; first | (go_simp; done) | (go_simp; with_reducible rfl)
          try simp only [Act.put, List.setIfInBounds_toArray, List.set_cons_zero, List.set_cons_succ]
          refine wpF_pure (hb := .inr hB) (i := 17) (oi := { dst := some 51, op := Op.extract (Operand.tmp 34) 1, type := 3, pos := "ntt.go:53", after := #[{ on := 15, ground := Ground.data }, { on := 19, ground := Ground.gcOnly Departure.lateStores }], guard := none }) (v := ?_) rfl (by decide) (by kernel_rfl) (by kernel_rfl) (by kernel_rfl) (by rfl) ?_ ?_
          rotate_left
          · intro W; first | (go_simp; done) | (go_simp; with_reducible rfl)
          try simp only [Act.put, List.setIfInBounds_toArray, List.set_cons_zero, List.set_cons_succ]
          refine wpF_pure (hb := .inr hB) (i := 18) (oi := { dst := some 52, op := Op.indexAddr 24 (Operand.tmp 4) (Operand.tmp 35), type := 0, pos := "ntt.go:53", after := #[{ on := 0, ground := Ground.data }, { on := 0, ground := Ground.phase }, { on := 1, ground := Ground.textOnly Departure.lateStores }, { on := 2, ground := Ground.textOnly Departure.lateStores }, { on := 3, ground := Ground.textOnly Departure.lateStores }, { on := 4, ground := Ground.phase }, { on := 5, ground := Ground.phase }, { on := 6, ground := Ground.phase }, { on := 7, ground := Ground.phase }, { on := 8, ground := Ground.phase }, { on := 9, ground := Ground.phase }, { on := 10, ground := Ground.phase }, { on := 11, ground := Ground.phase }, { on := 12, ground := Ground.phase }, { on := 13, ground := Ground.phase }, { on := 14, ground := Ground.phase }, { on := 15, ground := Ground.phase }, { on := 16, ground := Ground.phase }, { on := 17, ground := Ground.textOnly Departure.lateStores }], guard := none }) (v := ?_) rfl (by decide) (by kernel_rfl) (by kernel_rfl) (by kernel_rfl) (by rfl) ?_ ?_
          rotate_left
          · intro W; first | (go_simp; done) | (go_simp; with_reducible rfl)
          try simp only [Act.put, List.setIfInBounds_toArray, List.set_cons_zero, List.set_cons_succ]
          refine wpF_do (i := 19) (o := { dst := none, op := Op.store 3 (Operand.tmp 52) (Operand.tmp 50), type := 0, pos := "ntt.go:53", after := #[{ on := 18, ground := Ground.data }, { on := 16, ground := Ground.data }, { on := 14, ground := Ground.chain }, { on := 0, ground := Ground.phase }, { on := 1, ground := Ground.textOnly Departure.lateStores }, { on := 2, ground := Ground.textOnly Departure.lateStores }, { on := 3, ground := Ground.textOnly Departure.lateStores }, { on := 4, ground := Ground.phase }, { on := 5, ground := Ground.phase }, { on := 6, ground := Ground.phase }, { on := 7, ground := Ground.phase }, { on := 8, ground := Ground.phase }, { on := 9, ground := Ground.phase }, { on := 10, ground := Ground.phase }, { on := 11, ground := Ground.phase }, { on := 12, ground := Ground.phase }, { on := 13, ground := Ground.phase }, { on := 14, ground := Ground.phase }, { on := 15, ground := Ground.phase }, { on := 16, ground := Ground.phase }, { on := 17, ground := Ground.textOnly Departure.lateStores }], guard := none }) (by kernel_rfl) rfl (by rfl) fun K hK => ?_
          refine wp_store_int _ _ (by rfl) (by rfl) (((C1 z (F i) (F k)).val : Nat) : Int) (by rfl) r5 (by rw [gI_length]; exact hi6) ?_
          intro w6 r6 hw6
          rw [gI_set] at r6
          refine hK.out _ _ (.inl rfl) ?_
          clear hK K
          try simp only [Act.put, List.setIfInBounds_toArray, List.set_cons_zero, List.set_cons_succ]
          refine wpF_pure (hb := .inl (by kernel_rfl)) (i := 20) (oi := { dst := some 53, op := Op.indexAddr 24 (Operand.tmp 4) (Operand.tmp 38), type := 0, pos := "ntt.go:53", after := #[{ on := 3, ground := Ground.data }, { on := 0, ground := Ground.phase }, { on := 1, ground := Ground.phase }, { on := 2, ground := Ground.phase }, { on := 3, ground := Ground.phase }, { on := 4, ground := Ground.phase }, { on := 5, ground := Ground.phase }, { on := 6, ground := Ground.phase }, { on := 7, ground := Ground.phase }, { on := 8, ground := Ground.phase }, { on := 9, ground := Ground.phase }, { on := 10, ground := Ground.phase }, { on := 11, ground := Ground.phase }, { on := 12, ground := Ground.phase }, { on := 13, ground := Ground.phase }, { on := 14, ground := Ground.phase }, { on := 15, ground := Ground.phase }, { on := 16, ground := Ground.phase }, { on := 17, ground := Ground.phase }, { on := 18, ground := Ground.phase }, { on := 19, ground := Ground.phase }], guard := none }) (v := ?_) rfl (by decide) (by kernel_rfl) (by kernel_rfl) (by kernel_rfl) (by rfl) ?_ ?_
          rotate_left
          · intro W; first | (go_simp; done) | (go_simp; with_reducible rfl)
          try simp only [Act.put, List.setIfInBounds_toArray, List.set_cons_zero, List.set_cons_succ]
          refine wpF_more (i := 21) (o := { dst := none, op := Op.store 3 (Operand.tmp 53) (Operand.tmp 51), type := 0, pos := "ntt.go:53", after := #[{ on := 20, ground := Ground.data }, { on := 17, ground := Ground.data }, { on := 19, ground := Ground.chain }, { on := 0, ground := Ground.phase }, { on := 1, ground := Ground.phase }, { on := 2, ground := Ground.phase }, { on := 3, ground := Ground.phase }, { on := 4, ground := Ground.phase }, { on := 5, ground := Ground.phase }, { on := 6, ground := Ground.phase }, { on := 7, ground := Ground.phase }, { on := 8, ground := Ground.phase }, { on := 9, ground := Ground.phase }, { on := 10, ground := Ground.phase }, { on := 11, ground := Ground.phase }, { on := 12, ground := Ground.phase }, { on := 13, ground := Ground.phase }, { on := 14, ground := Ground.phase }, { on := 15, ground := Ground.phase }, { on := 16, ground := Ground.phase }, { on := 17, ground := Ground.phase }, { on := 18, ground := Ground.phase }, { on := 19, ground := Ground.phase }], guard := none }) (by kernel_rfl) (by kernel_rfl) rfl (by rfl) fun K hK => ?_
          refine wp_store_int _ _ (by rfl) (by rfl) (((C2 z (F i) (F k)).val : Nat) : Int) (by rfl) r6 (by rw [gI_length]; exact hk6) ?_
          intro w7 r7 hw7
          rw [gI_set] at r7
          refine hK.out _ _ ?_
          clear hK K
          try simp only [Act.put, List.setIfInBounds_toArray, List.set_cons_zero, List.set_cons_succ]
          refine wpF_done (by kernel_rfl) ?_
          have rz5 := (rz2.drew.kept b5)
          replace rz5 := rz5.wrote hw6 (by omega)
          replace rz5 := rz5.wrote hw7 (by omega)
          have hb5 := stepB hby.drew b5
          replace hb5 := hw6.below _ _ (Nat.le_refl _) hb5
          replace hb5 := hw7.below _ _ (Nat.le_refl _) hb5
          have x4 : IntKind.i64.wrap ((i : Int) + 1) = ((i + 1 : Nat) : Int) := by rw [IntWalk.i64_in _ (by omega)]; omega
          clear ra2 rz2 hby hca hcb hw6 hw7 b5 r5 r6 hB
          go_wp2
          go_roundw
          case rel => exact ⟨j + 1, i + 1, _, by omega, by have := HIJ.out; omega, by go_num, HNX2, r7, rz5, hb5⟩
          case measure => have := HIJ.out; simp [intOf] <;> omega
        · have hje : j = h := by omega
          have hil : ¬ i < t := by have := HIJ.out; have := HT.out; omega
          have hdi : decide ((i : Int) < (t : Int)) = false := decide_eq_false (by omega)
          have hiI : (t : Int) ≤ (i : Int) := by omega
          have HG3 : Hid (Xs h Z C1 C2 F (b + 1) 0 G2) := by
            have h1 := HG2.out
            rw [hje] at h1
            exact h1.next HH.out
          clear hje
          go_wp2
          go_roundw
          case rel => exact ⟨b + 1, _, by omega, by go_num, HG3, ra2, rz2, hby⟩
          case measure => simp [intOf] <;> omega
    · have hie : b = n := by omega
      have hdb : decide ((b : Int) < (n : Int)) = false := decide_eq_false (by omega)
      have hbI : (n : Int) ≤ (b : Int) := by omega
      have HE : Hid (gI G = gI (fzF (xg h Z C1 C2 F))) := by
        have h1 := HG.out
        rw [hie, HN.out] at h1
        exact h1.done HH.out
      rw [HE.out] at ra1
      clear hie
      go_wp2_with (first | refine wpList_load_row rfl 24 _ rfl rfl ra1 _ Tryd.underlying24 rfl (poInfoA _) ?_ | (refine wpList_store_row rfl 24 _ _ rfl (gI (fzF (xg h Z C1 C2 F))) rfl rfl rz1 (by rw [gI_length, gI_length]) (poInfoA _) ?_; intro w7 r7 hw7))
      refine bodyPost_row (k := .i64) rfl rfl rfl r7 Tryd.underlying24 rfl (poInfoA _) ?_
      exact ⟨rfl, hw7.below _ _ (by omega) hbx⟩
end Go.Proofs.YtbladcgdbhogcabDoor
