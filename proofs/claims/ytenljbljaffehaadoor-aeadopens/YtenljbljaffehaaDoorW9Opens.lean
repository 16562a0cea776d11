/- What the law AeadOpens answers at every input: the walk. -/
import Derived.Test.YtenljbljaffehaaDoorA09e
import Derived.Test.YtenljbljaffehaaDoorBase
namespace Go.Proofs.YtenljbljaffehaaDoor
open Go.ChangeShapes Go.WideShapes Go.ChangeAt Go.RowKit
set_option linter.unusedSimpArgs false
set_option linter.unusedVariables false

set_option maxRecDepth 100000 in
set_option maxHeartbeats 8000000 in
theorem opens_walk (vk vn va vs vb vt : Value) (k n a s b : List UInt8) (t : List Int) (w : World) (hk : Rd w vk k) (hn : Rd w vn n) (ha : Rd w va a) (hs : Rd w vs s) (hb : Rd w vb b) (htn : RdI .i64 w vt t) (hp : PlT w) (ht : KpT w) :
    Calls Tryd.prog 4 #[vk, vn, va, vs, vb, vt] w fun e w' => e = .returned (.bool true) ∧ Below w.heap.size w w' := by
  obtain ⟨aa, ca, rfl, -, hma, -, -⟩ := id ha
  obtain ⟨asx, cc, rfl, -, hms, -, -⟩ := id hs
  obtain ⟨ab, cb, rfl, -, hmb, -, -⟩ := id hb
  obtain ⟨at', ct, rfl, hlct, hmt, -, -⟩ := id htn
  unfold maxLen at hma hms hmb hmt
  by_cases hla : a.length ≤ 1000
  · have da : decide ((1000 : Int) < (a.length : Int)) = false := decide_eq_false (by omega)
    by_cases hls : s.length ≤ 1000
    · have ds : decide ((1000 : Int) < (s.length : Int)) = false := decide_eq_false (by omega)
      by_cases hlb : b.length ≤ 1000
      · have db : decide ((1000 : Int) < (b.length : Int)) = false := decide_eq_false (by omega)
        have HLA : Hid (a.length ≤ 3000000) := by show _ ≤ _; omega
        have HLS : Hid (s.length ≤ 3000000) := by show _ ≤ _; omega
        have HLB : Hid (b.length ≤ 1000) := hlb
        clear hla hls hlb
        go_enter Tryd.func4, Tryd.ntmps4
        go_wp2_with fail
        refine (awake_any _ hp ht).mono ?_
        rintro e w1 ⟨rfl, b1⟩
        have HK : Hid (Rd w1 vk k) := hk.kept b1
        have HN : Hid (Rd w1 vn n) := hn.kept b1
        have HA : Hid (Rd w1 (.slice aa a.length ca) a) := ha.kept b1
        have HS : Hid (Rd w1 (.slice asx s.length cc) s) := hs.kept b1
        have HB : Hid (Rd w1 (.slice ab b.length cb) b) := hb.kept b1
        have HTn : Hid (RdI .i64 w1 (.slice at' t.length ct) t) := htn.kept b1
        have HP : Hid (PlT w1) := hp.kept b1
        have HT : Hid (KpT w1) := ht.kept b1
        have HB1 : Hid (Below w.heap.size w w1) := b1
        clear hk hn hp ht ha hs hb htn b1
        go_wp2_with fail
        refine (aopen_all _ _ _ _ k n a s HLA.out HLS.out _ HP.out HT.out HK.out HN.out HA.out HS.out).mono ?_
        rintro e w2 ⟨vx, rfl, hN2⟩
        have c2 := hN2.2
        have x2 := hN2.rd
        go_wp2_with fail
        refine (openR_all _ _ _ _ k n a s HLA.out HLS.out _ (HK.out.kept c2) (HN.out.kept c2) (HA.out.kept c2) (HS.out.kept c2)).mono ?_
        rintro e w3 ⟨vy, rfl, hN3⟩
        have c3 := stepB c2 hN3.2
        replace x2 := x2.kept hN3.2
        have y3 := hN3.rd
        have HX4 : Hid (Rd w3 vx (opA k n a s).1) := x2
        have HY4 : Hid (Rd w3 vy (opA k n a s).1) := y3
        have HP4 : Hid (PlT w3) := HP.out.kept c3
        have HT4 : Hid (KpT w3) := HT.out.kept c3
        have HK4 : Hid (Rd w3 vk k) := HK.out.kept c3
        have HN4 : Hid (Rd w3 vn n) := HN.out.kept c3
        have HA4 : Hid (Rd w3 (.slice aa a.length ca) a) := HA.out.kept c3
        have HTn4 : Hid (RdI .i64 w3 (.slice at' t.length ct) t) := HTn.out.kept c3
        have HB4 : Hid (Below w.heap.size w w3) := stepB HB1.out c3
        go_wp2_with fail
        refine (sealR_all _ _ _ _ k n a b HLA.out (by have := HLB.out; omega) _ HK4.out HN4.out HA4.out (HB.out.kept c3)).mono ?_
        rintro e w4 ⟨vb, rfl, hN4⟩
        obtain ⟨S0, hS0⟩ : ∃ S0 : List UInt8, S0 = (seA k n a b).1 := ⟨_, rfl⟩
        have HL0 : Hid (S0.length ≤ 1016) := by
          show _ ≤ _
          rw [hS0]
          have := HLB.out
          by_cases hf : fitN k n
          · rw [seA_fit hf]
            show (seL k n a b).length ≤ 1016
            unfold seL
            rw [List.length_append, smL_length, tgL, mcP_length]
            omega
          · rw [seA_no hf]
            simp
        rw [← hS0] at hN4
        obtain ⟨sb, cs, rfl, -, hmS, -, -⟩ := id hN4.rd
        obtain ⟨N, hSN0⟩ : ∃ N : Nat, N = S0.length := ⟨_, rfl⟩
        rw [← hSN0] at hN4 ⊢
        have HNL : Hid (N ≤ 1016) := by show _ ≤ _; rw [hSN0]; exact HL0.out
        generalize (seA k n a b).2 = E4
        unfold maxLen at hmS
        obtain ⟨Lt, hLt⟩ : ∃ Lt : Nat, Lt = t.length := ⟨_, rfl⟩
        rw [← hLt] at HTn4 hlct ⊢
        have HLt : Hid (Lt = t.length) := hLt
        have HSN0 : Hid (N = S0.length) := hSN0
        clear HK HN HA HS HB HTn HP HT HB1 c2 c3 x2 y3 hN2 hN3 hLt HL0 hS0 hSN0
        go_wp2
        go_loopw [20] (fun iv wx => ∃ (i : Nat) (S : List UInt8), i ≤ 7 ∧ iv = .int .i64 (i : Int) ∧ N = S.length ∧ New 5 w3 (.slice sb N cs) S wx) (fun iv _ => 8 - (intOf iv).toNat)
        case atStart => exact ⟨0, S0, by omega, rfl, HSN0.out, hN4⟩
        case round =>
          obtain ⟨i, S, hi, rfl, hSN, hNS⟩ := hrel
          clear hN4 HSN0
          have HSN : Hid (N = S.length) := hSN
          clear hSN
          have hbx := hNS.2
          by_cases h1 : i + 1 < Lt
          · have d1 : decide ((i : Int) + 1 < (Lt : Int)) = true := decide_eq_true (by omega)
            have g1 : (i : Int) + 1 < (Lt : Int) := by omega
            by_cases h2 : i < 6
            · have d2 : decide ((i : Int) < 6) = true := decide_eq_true (by omega)
              have g2 : (i : Int) < 6 := by omega
              by_cases h3 : 0 < N
              · have d3 : decide ((0 : Int) < (N : Int)) = true := decide_eq_true (by omega)
                have g3 : (0 : Int) < (N : Int) := by omega
                have g4 : ¬ (N : Int) = 0 := by omega
                obtain ⟨bt, ot, ct', ev, hlc, hmx, hbt, hcells⟩ := (HTn4.out.kept hbx).cells (by intro h; rw [HLt.out, h] at h1; simp at h1)
                simp only [Value.slice.injEq] at ev
                obtain ⟨rfl, -, rfl⟩ := ev
                have ci := hcells i (by rw [← HLt.out]; omega)
                have cj := hcells (i + 1) (by rw [← HLt.out]; omega)
                obtain ⟨X, hX, hXa⟩ := and_small (t.getD i 0) 16777215 (by decide)
                obtain ⟨Y, hY, hYa⟩ := and_small (t.getD (i + 1) 0) 255 (by decide)
                have hXa' : bits .and .i64 (t.getD i 0) 16777215 = (X : Int) := hXa
                have hYa' : bits .and .i64 (t.getD (i + 1) 0) 255 = (Y : Int) := hYa
                clear hXa hYa
                obtain ⟨q, hq⟩ : ∃ q : Nat, q = X % N := ⟨_, rfl⟩
                have hqN : q < N := by rw [hq]; exact Nat.mod_lt _ h3
                have hqI : (q : Int) < (N : Int) := by omega
                have em : ((X : Int)).tmod (N : Int) = (q : Int) := by rw [Int.tmod_eq_emod_of_nonneg (by omega), hq]; omega
                have em2 : (X : Int) % (N : Int) = (q : Int) := by rw [hq]; omega
                have em3 : IntKind.i64.wrap (q : Int) = (q : Int) := IntWalk.i64_in _ (by have := HNL.out; omega)
                obtain ⟨yb, hyb⟩ : ∃ yb : UInt8, yb.toNat = Y := ⟨UInt8.ofNat Y, by rw [UInt8.toNat_ofNat']; omega⟩
                have ey : IntKind.u8.wrap (Y : Int) = (Y : Int) := by rw [IntKind.wrap_u8]; omega
                have ey2 : (Y : Int) % 256 = (Y : Int) := by omega
                obtain ⟨gx, cx, ev, hcx, hcell, hfree, hset⟩ := hNS.store (j := q) (by rw [← HSN.out]; exact hqN)
                rw [← HSN.out] at ev hcx
                simp only [Value.slice.injEq, Option.some.injEq, Addr.mk.injEq, and_true, true_and] at ev
                obtain ⟨rfl, rfl⟩ := ev
                have hx7 := hset (S.getD q 0 ^^^ yb)
                rw [← byte_xor, hyb] at hx7
                have HX7 : Hid (New 5 w3 (.slice (some ⟨gx, 0, none⟩) N cs) (S.set q (S.getD q 0 ^^^ yb)) (wr.setCell ⟨gx, q, none⟩ (.int .u8 (bits .xor .u8 ((S.getD q 0).toNat : Int) (Y : Int))))) := hx7
                have HL7 : Hid (N = (S.set q (S.getD q 0 ^^^ yb)).length) := by show _ = _; rw [List.length_set]; exact HSN.out
                generalize S.set q (S.getD q 0 ^^^ yb) = S2 at HX7 HL7
                generalize ((S.getD q 0).toNat : Int) = G at hcell HX7
                generalize t.getD i 0 = ti at ci hXa'
                generalize t.getD (i + 1) 0 = tj at cj hYa'
                have wi : IntKind.i64.wrap ((i : Int) + 1) = (i : Int) + 1 := IntWalk.i64_in _ (by omega)
                have ei : ((i : Int) + 1).toNat = i + 1 := by omega
                have ei0 : (0 : Int) ≤ (i : Int) + 1 := by omega
                clear hx7 hset hNS HSN hcells hq hyb hmx hlc hcx
                go_wp2_with fail
                refine wpE_begin 15 (by kernel_rfl) ?_
                refine wpE_take (i := 0) (oi := { dst := some 90, op := Op.move (Operand.tmp 18), type := 22, pos := "law.go:58", after := #[], guard := none }) (v := ?_) rfl (by decide) (by kernel_rfl) (by kernel_rfl) (by kernel_rfl) (by kernel_rfl) (by rfl) ?_ ?_
                rotate_left
                · intro W hW; first | (go_simp; done) | (go_simp; with_reducible rfl)
                try simp only [Act.put, List.setIfInBounds_toArray, List.set_cons_zero, List.set_cons_succ]
                refine wpE_take (i := 1) (oi := { dst := some 91, op := Op.move (Operand.tmp 21), type := 3, pos := "law.go:58", after := #[], guard := none }) (v := ?_) rfl (by decide) (by kernel_rfl) (by kernel_rfl) (by kernel_rfl) (by kernel_rfl) (by rfl) ?_ ?_
                rotate_left
                · intro W hW; first | (go_simp; done) | (go_simp; with_reducible rfl)
                try simp only [Act.put, List.setIfInBounds_toArray, List.set_cons_zero, List.set_cons_succ]
                refine wpE_take (i := 2) (oi := { dst := some 92, op := Op.move (Operand.tmp 18), type := 22, pos := "law.go:58", after := #[], guard := none }) (v := ?_) rfl (by decide) (by kernel_rfl) (by kernel_rfl) (by kernel_rfl) (by kernel_rfl) (by rfl) ?_ ?_
                rotate_left
                · intro W hW; first | (go_simp; done) | (go_simp; with_reducible rfl)
                try simp only [Act.put, List.setIfInBounds_toArray, List.set_cons_zero, List.set_cons_succ]
                refine wpE_take (i := 3) (oi := { dst := some 93, op := Op.move (Operand.tmp 21), type := 3, pos := "law.go:58", after := #[], guard := none }) (v := ?_) rfl (by decide) (by kernel_rfl) (by kernel_rfl) (by kernel_rfl) (by kernel_rfl) (by rfl) ?_ ?_
                rotate_left
                · intro W hW; first | (go_simp; done) | (go_simp; with_reducible rfl)
                try simp only [Act.put, List.setIfInBounds_toArray, List.set_cons_zero, List.set_cons_succ]
                refine wpE_take (i := 4) (oi := { dst := some 94, op := Op.indexAddr 22 (Operand.tmp 92) (Operand.tmp 93), type := 0, pos := "law.go:58", after := #[{ on := 2, ground := Ground.data }, { on := 3, ground := Ground.data }], guard := none }) (v := ?_) rfl (by decide) (by kernel_rfl) (by kernel_rfl) (by kernel_rfl) (by kernel_rfl) (by rfl) ?_ ?_
                rotate_left
                · intro W hW; first | (go_simp; done) | (go_simp; with_reducible rfl)
                try simp only [Act.put, List.setIfInBounds_toArray, List.set_cons_zero, List.set_cons_succ]
                refine wpE_take (i := 5) (oi := { dst := some 95, op := Op.load 5 (Operand.tmp 94), type := 5, pos := "law.go:58", after := #[{ on := 4, ground := Ground.data }], guard := none }) (v := ?_) rfl (by decide) (by kernel_rfl) (by kernel_rfl) (by kernel_rfl) (by kernel_rfl) (by rfl) ?_ ?_
                rotate_left
                · intro W hW; have hcw := cellU hcell hW; first | (go_simp; done) | (go_simp; with_reducible rfl)
                try simp only [Act.put, List.setIfInBounds_toArray, List.set_cons_zero, List.set_cons_succ]
                refine wpE_take (i := 6) (oi := { dst := some 96, op := Op.move (Operand.tmp 5), type := 29, pos := "law.go:58", after := #[], guard := none }) (v := ?_) rfl (by decide) (by kernel_rfl) (by kernel_rfl) (by kernel_rfl) (by kernel_rfl) (by rfl) ?_ ?_
                rotate_left
                · intro W hW; first | (go_simp; done) | (go_simp; with_reducible rfl)
                try simp only [Act.put, List.setIfInBounds_toArray, List.set_cons_zero, List.set_cons_succ]
                refine wpE_take (i := 7) (oi := { dst := some 97, op := Op.move (Operand.tmp 20), type := 3, pos := "law.go:58", after := #[], guard := none }) (v := ?_) rfl (by decide) (by kernel_rfl) (by kernel_rfl) (by kernel_rfl) (by kernel_rfl) (by rfl) ?_ ?_
                rotate_left
                · intro W hW; first | (go_simp; done) | (go_simp; with_reducible rfl)
                try simp only [Act.put, List.setIfInBounds_toArray, List.set_cons_zero, List.set_cons_succ]
                refine wpE_take (i := 8) (oi := { dst := some 98, op := Op.binOp BinOp.add 3 (Operand.tmp 97) (Operand.const (Value.int IntKind.i64 1)) 3, type := 3, pos := "law.go:58", after := #[{ on := 7, ground := Ground.data }], guard := none }) (v := ?_) rfl (by decide) (by kernel_rfl) (by kernel_rfl) (by kernel_rfl) (by kernel_rfl) (by rfl) ?_ ?_
                rotate_left
                · intro W hW; first | (go_simp; done) | (go_simp; with_reducible rfl)
                try simp only [Act.put, List.setIfInBounds_toArray, List.set_cons_zero, List.set_cons_succ]
                refine wpE_take (i := 9) (oi := { dst := some 99, op := Op.indexAddr 29 (Operand.tmp 96) (Operand.tmp 98), type := 0, pos := "law.go:58", after := #[{ on := 6, ground := Ground.data }, { on := 8, ground := Ground.data }], guard := none }) (v := ?_) rfl (by decide) (by kernel_rfl) (by kernel_rfl) (by kernel_rfl) (by kernel_rfl) (by rfl) ?_ ?_
                rotate_left
                · intro W hW; first | (go_simp; done) | (go_simp; with_reducible rfl)
                try simp only [Act.put, List.setIfInBounds_toArray, List.set_cons_zero, List.set_cons_succ]
                refine wpE_take (i := 10) (oi := { dst := some 100, op := Op.load 3 (Operand.tmp 99), type := 3, pos := "law.go:58", after := #[{ on := 9, ground := Ground.data }], guard := none }) (v := ?_) rfl (by decide) (by kernel_rfl) (by kernel_rfl) (by kernel_rfl) (by kernel_rfl) (by rfl) ?_ ?_
                rotate_left
                · intro W hW; have hcw := cellU cj hW; first | (go_simp; done) | (go_simp; with_reducible rfl)
                try simp only [Act.put, List.setIfInBounds_toArray, List.set_cons_zero, List.set_cons_succ]
                refine wpE_take (i := 11) (oi := { dst := some 101, op := Op.binOp BinOp.and 3 (Operand.tmp 100) (Operand.const (Value.int IntKind.i64 255)) 3, type := 3, pos := "law.go:58", after := #[{ on := 10, ground := Ground.data }], guard := none }) (v := ?_) rfl (by decide) (by kernel_rfl) (by kernel_rfl) (by kernel_rfl) (by kernel_rfl) (by rfl) ?_ ?_
                rotate_left
                · intro W hW; first | (go_simp; done) | (go_simp; with_reducible rfl)
                try simp only [Act.put, List.setIfInBounds_toArray, List.set_cons_zero, List.set_cons_succ]
                refine wpE_take (i := 12) (oi := { dst := some 102, op := Op.convert 3 5 (Operand.tmp 101), type := 5, pos := "law.go:58", after := #[{ on := 11, ground := Ground.data }], guard := none }) (v := ?_) rfl (by decide) (by kernel_rfl) (by kernel_rfl) (by kernel_rfl) (by kernel_rfl) (by rfl) ?_ ?_
                rotate_left
                · intro W hW; first | (go_simp; done) | (go_simp; with_reducible rfl)
                try simp only [Act.put, List.setIfInBounds_toArray, List.set_cons_zero, List.set_cons_succ]
                refine wpE_take (i := 13) (oi := { dst := some 103, op := Op.binOp BinOp.xor 5 (Operand.tmp 95) (Operand.tmp 102) 5, type := 5, pos := "law.go:58", after := #[{ on := 5, ground := Ground.data }, { on := 12, ground := Ground.data }], guard := none }) (v := ?_) rfl (by decide) (by kernel_rfl) (by kernel_rfl) (by kernel_rfl) (by kernel_rfl) (by rfl) ?_ ?_
                rotate_left
                · intro W hW; first | (go_simp; done) | (go_simp; with_reducible rfl)
                try simp only [Act.put, List.setIfInBounds_toArray, List.set_cons_zero, List.set_cons_succ]
                refine wpE_take (i := 14) (oi := { dst := some 104, op := Op.indexAddr 22 (Operand.tmp 90) (Operand.tmp 91), type := 0, pos := "law.go:58", after := #[{ on := 0, ground := Ground.data }, { on := 1, ground := Ground.data }, { on := 0, ground := Ground.phase }, { on := 1, ground := Ground.phase }, { on := 2, ground := Ground.phase }, { on := 3, ground := Ground.phase }, { on := 4, ground := Ground.phase }, { on := 5, ground := Ground.phase }, { on := 6, ground := Ground.phase }, { on := 7, ground := Ground.phase }, { on := 8, ground := Ground.phase }, { on := 9, ground := Ground.phase }, { on := 10, ground := Ground.phase }, { on := 11, ground := Ground.phase }, { on := 12, ground := Ground.phase }, { on := 13, ground := Ground.phase }], guard := none }) (v := ?_) rfl (by decide) (by kernel_rfl) (by kernel_rfl) (by kernel_rfl) (by kernel_rfl) (by rfl) ?_ ?_
                rotate_left
                · intro W hW; first | (go_simp; done) | (go_simp; with_reducible rfl)
                try simp only [Act.put, List.setIfInBounds_toArray, List.set_cons_zero, List.set_cons_succ]
                refine wpE_last (o := { dst := none, op := Op.store 5 (Operand.tmp 104) (Operand.tmp 103), type := 0, pos := "law.go:58", after := #[{ on := 14, ground := Ground.data }, { on := 13, ground := Ground.data }, { on := 0, ground := Ground.phase }, { on := 1, ground := Ground.phase }, { on := 2, ground := Ground.phase }, { on := 3, ground := Ground.phase }, { on := 4, ground := Ground.phase }, { on := 5, ground := Ground.phase }, { on := 6, ground := Ground.phase }, { on := 7, ground := Ground.phase }, { on := 8, ground := Ground.phase }, { on := 9, ground := Ground.phase }, { on := 10, ground := Ground.phase }, { on := 11, ground := Ground.phase }, { on := 12, ground := Ground.phase }, { on := 13, ground := Ground.phase }], guard := none }) (by kernel_rfl) (by kernel_rfl) rfl (by rfl) fun K hK => ?_
                go_simp
                refine hK.out _ _ ?_
                clear hK K
                try simp only [Act.put, List.setIfInBounds_toArray, List.set_cons_zero, List.set_cons_succ]
                go_wp2
                go_roundw
                case rel => exact ⟨i + 2, S2, by omega, by go_num, HL7.out, New.drew HX7.out⟩
                case measure => simp [intOf] <;> omega
              · have h0 : N = 0 := by omega
                have d3 : decide ((0 : Int) < (N : Int)) = false := decide_eq_false (by omega)
                have g3 : (N : Int) ≤ 0 := by omega
                clear h0 h3
                have x1 := HX4.out.kept hbx
                have y1 := HY4.out.kept hbx
                have s1 : Rd wr (.slice sb N cs) S := hNS.rd
                have HS1 : Hid (S.length ≤ 3000000) := by show _ ≤ _; have := HNL.out; have := HSN.out; omega
                clear hNS HSN
                go_wp2_with fail
                refine (aopen_all _ _ _ _ k n a S HLA.out HS1.out _ (HP4.out.kept hbx) (HT4.out.kept hbx) (HK4.out.kept hbx) (HN4.out.kept hbx) (HA4.out.kept hbx) s1).mono ?_
                rintro e w6 ⟨vz, rfl, hN6⟩
                have bz := stepB hbx hN6.2
                have z1 := hN6.rd
                replace x1 := x1.kept hN6.2
                replace y1 := y1.kept hN6.2
                replace s1 := s1.kept hN6.2
                clear hN6
                go_wp2_with fail
                refine (openR_all _ _ _ _ k n a S HLA.out HS1.out _ (HK4.out.kept bz) (HN4.out.kept bz) (HA4.out.kept bz) s1).mono ?_
                rintro e w7 ⟨vw, rfl, hN7⟩
                have HB7 : Hid (Below w.heap.size w w7) := stepB HB4.out (stepB bz hN7.2)
                have z2 := conv_any (z1.kept hN7.2)
                have w2 := conv_any hN7.rd
                have x2 := conv_any (x1.kept hN7.2)
                have y2 := conv_any (y1.kept hN7.2)
                generalize (opA k n a S).2 = F at z2 w2 ⊢
                generalize (opA k n a S).1 = Z at z2 w2
                generalize (opA k n a s).2 = E at x2 y2 ⊢
                generalize (opA k n a s).1 = Y at x2 y2
                have hZZ : (Z == Z) = true := by simp
                have hYY : (Y == Y) = true := by simp
                clear hN7 z1 x1 y1 s1 bz hbx HX4 HY4 HP4 HT4 HK4 HN4 HA4 HTn4
                go_wp2
                go_ret
                exact ⟨rfl, HB7.out⟩
            · have d2 : decide ((i : Int) < 6) = false := decide_eq_false (by omega)
              have g2 : (6 : Int) ≤ (i : Int) := by omega
              have x1 := HX4.out.kept hbx
              have y1 := HY4.out.kept hbx
              have s1 : Rd wr (.slice sb N cs) S := hNS.rd
              have HS1 : Hid (S.length ≤ 3000000) := by show _ ≤ _; have := HNL.out; have := HSN.out; omega
              clear hNS HSN
              go_wp2_with fail
              refine (aopen_all _ _ _ _ k n a S HLA.out HS1.out _ (HP4.out.kept hbx) (HT4.out.kept hbx) (HK4.out.kept hbx) (HN4.out.kept hbx) (HA4.out.kept hbx) s1).mono ?_
              rintro e w6 ⟨vz, rfl, hN6⟩
              have bz := stepB hbx hN6.2
              have z1 := hN6.rd
              replace x1 := x1.kept hN6.2
              replace y1 := y1.kept hN6.2
              replace s1 := s1.kept hN6.2
              clear hN6
              go_wp2_with fail
              refine (openR_all _ _ _ _ k n a S HLA.out HS1.out _ (HK4.out.kept bz) (HN4.out.kept bz) (HA4.out.kept bz) s1).mono ?_
              rintro e w7 ⟨vw, rfl, hN7⟩
              have HB7 : Hid (Below w.heap.size w w7) := stepB HB4.out (stepB bz hN7.2)
              have z2 := conv_any (z1.kept hN7.2)
              have w2 := conv_any hN7.rd
              have x2 := conv_any (x1.kept hN7.2)
              have y2 := conv_any (y1.kept hN7.2)
              generalize (opA k n a S).2 = F at z2 w2 ⊢
              generalize (opA k n a S).1 = Z at z2 w2
              generalize (opA k n a s).2 = E at x2 y2 ⊢
              generalize (opA k n a s).1 = Y at x2 y2
              have hZZ : (Z == Z) = true := by simp
              have hYY : (Y == Y) = true := by simp
              clear hN7 z1 x1 y1 s1 bz hbx HX4 HY4 HP4 HT4 HK4 HN4 HA4 HTn4
              go_wp2
              go_ret
              exact ⟨rfl, HB7.out⟩
          · have d1 : decide ((i : Int) + 1 < (Lt : Int)) = false := decide_eq_false (by omega)
            have g1 : (Lt : Int) ≤ (i : Int) + 1 := by omega
            have x1 := HX4.out.kept hbx
            have y1 := HY4.out.kept hbx
            have s1 : Rd wr (.slice sb N cs) S := hNS.rd
            have HS1 : Hid (S.length ≤ 3000000) := by show _ ≤ _; have := HNL.out; have := HSN.out; omega
            clear hNS HSN
            go_wp2_with fail
            refine (aopen_all _ _ _ _ k n a S HLA.out HS1.out _ (HP4.out.kept hbx) (HT4.out.kept hbx) (HK4.out.kept hbx) (HN4.out.kept hbx) (HA4.out.kept hbx) s1).mono ?_
            rintro e w6 ⟨vz, rfl, hN6⟩
            have bz := stepB hbx hN6.2
            have z1 := hN6.rd
            replace x1 := x1.kept hN6.2
            replace y1 := y1.kept hN6.2
            replace s1 := s1.kept hN6.2
            clear hN6
            go_wp2_with fail
            refine (openR_all _ _ _ _ k n a S HLA.out HS1.out _ (HK4.out.kept bz) (HN4.out.kept bz) (HA4.out.kept bz) s1).mono ?_
            rintro e w7 ⟨vw, rfl, hN7⟩
            have HB7 : Hid (Below w.heap.size w w7) := stepB HB4.out (stepB bz hN7.2)
            have z2 := conv_any (z1.kept hN7.2)
            have w2 := conv_any hN7.rd
            have x2 := conv_any (x1.kept hN7.2)
            have y2 := conv_any (y1.kept hN7.2)
            generalize (opA k n a S).2 = F at z2 w2 ⊢
            generalize (opA k n a S).1 = Z at z2 w2
            generalize (opA k n a s).2 = E at x2 y2 ⊢
            generalize (opA k n a s).1 = Y at x2 y2
            have hZZ : (Z == Z) = true := by simp
            have hYY : (Y == Y) = true := by simp
            clear hN7 z1 x1 y1 s1 bz hbx HX4 HY4 HP4 HT4 HK4 HN4 HA4 HTn4
            go_wp2
            go_ret
            exact ⟨rfl, HB7.out⟩
      · have db : decide ((1000 : Int) < (b.length : Int)) = true := decide_eq_true (by omega)
        go_enter Tryd.func4, Tryd.ntmps4
        go_wp2_with fail
        refine (awake_any _ hp ht).mono ?_
        rintro e w1 ⟨rfl, b1⟩
        go_wp2
        go_ret
        exact ⟨rfl, b1⟩
    · have ds : decide ((1000 : Int) < (s.length : Int)) = true := decide_eq_true (by omega)
      go_enter Tryd.func4, Tryd.ntmps4
      go_wp2_with fail
      refine (awake_any _ hp ht).mono ?_
      rintro e w1 ⟨rfl, b1⟩
      go_wp2
      go_ret
      exact ⟨rfl, b1⟩
  · have da : decide ((1000 : Int) < (a.length : Int)) = true := decide_eq_true (by omega)
    go_enter Tryd.func4, Tryd.ntmps4
    go_wp2_with fail
    refine (awake_any _ hp ht).mono ?_
    rintro e w1 ⟨rfl, b1⟩
    go_wp2
    go_ret
    exact ⟨rfl, b1⟩
end Go.Proofs.YtenljbljaffehaaDoor
