/- What the law PatternDerives answers at every input: the walk. -/
import Derived.Test.YtpoibhhijidobaaGreatDoorAw15
import Derived.Test.YtpoibhhijidobaaGreatDoorL15c
import Derived.Test.YtpoibhhijidobaaGreatDoorRef15m
import Derived.Test.YtpoibhhijidobaaGreatDoorBase
namespace Go.Proofs.YtpoibhhijidobaaGreatDoor
open Go.ChangeShapes Go.WideShapes Go.ChangeAt Go.RowKit
set_option linter.unusedSimpArgs false
set_option linter.unusedVariables false

/-- A key's two cells. -/
structure Ck (b o : Nat) (q : Bool) (t : Int) (W : World) : Prop where
  who : W.cell? ⟨b, o, none⟩ = some (.bool q)
  kind : W.cell? ⟨b, o + 1, none⟩ = some (.int .i64 t)
theorem Ck.kept {b o : Nat} {q : Bool} {t : Int} {W W' : World} (h : Ck b o q t W) (hb : Below W.heap.size W W') : Ck b o q t W' := ⟨cellKP h.who hb, cellKP h.kind hb⟩
theorem Ck.chg {S : Nat → Prop} {b o : Nat} {q : Bool} {t : Int} {W W' : World} (h : Ck b o q t W) (c : Chg S W W') (h1 : ¬ S b) : Ck b o q t W' := ⟨cell_chg c h.who h1, cell_chg c h.kind h1⟩
theorem infoKR : (Tryz.prog.info? 57).map (fun i => (i.zero, i.size, i.bytes)) = some (some (.agg #[.bool false, .int .i64 0]), 2, 16) := by kernel_rfl
theorem build_KR (q : Bool) (t : Int) (w : World) : (Instr.build 57 #[(0, .bool q), (1, .int .i64 t)]).run Tryz.prog w = .ok (.agg #[.bool q, .int .i64 t]) w := by kernel_rfl
theorem take_key (l : List Say) (i : Nat) (h : i < l.length) : l.take (i + 1) = l.take i ++ [((l.getD i (false, 0)).1, (l.getD i (false, 0)).2)] := by
  have e : l.getD i (false, 0) = l[i] := by simp [h]
  rw [List.take_add_one, List.getElem?_eq_getElem h, e]
  rfl

set_option maxRecDepth 100000 in
set_option maxHeartbeats 8000000 in
theorem derives_walk (p : Ptn) (vm : Value) (A : Array Value) (hA : A = (paC p vm).toArray) (curve kem : Bool) (ks : List Say) (vk : Value) (hnm : p.name.length ≤ maxLen) (w : World) (h : MsR w vm p) (hk : KyR w vk ks) (hT : TkT w) :
    Calls Tryz.prog 7 #[.agg A, .bool curve, .bool kem, vk] w fun e w' => e = .returned (.bool true) ∧ Below w.heap.size w w' := by
  obtain ⟨ti, hti, hz0, hz1, hz2⟩ := info_parts infoKR
  obtain ⟨ak, ck, rfl, hk1, hk2⟩ := ky_len15 hk
  obtain ⟨n, hn⟩ : ∃ n : Nat, n = ks.length := ⟨_, rfl⟩
  rw [← hn] at hk1 hk ⊢
  unfold maxLen at hk2
  have HK : Hid (KyR w (.slice ak n ck) ks) := hk
  have HN : Hid (n = ks.length) := hn
  have HT : Hid (TkT w) := hT
  have HM : Hid (MsR w vm p) := h
  have HL : Hid (p.name.length ≤ maxLen) := hnm
  clear hT h hnm hk hn
  go_enter Tryz.func7, Tryz.ntmps7
  go_wp2_with (refine wpList_box_blk rfl 26 _ rfl (paC p vm) (by rw [← hA]; rfl) ?_)
  intro w1 r1 b1 s1
  clear s1 hA
  go_wp2_with fail
  refine (awake_any _ (HT.out.kept b1)).mono ?_
  rintro e w2 ⟨rfl, b2⟩
  replace r1 := r1.kept b2
  have hbw := stepB b1 b2
  clear b1 b2
  go_wp2_with (refine wpList_load_part rfl 26 _ rfl rfl [] (paC p vm) [] r1 (whole15 _) rfl Tryz.underlying26 rfl (paInfo p _) ?_)
  refine (few_any p vm _ rfl HL.out _ (HM.out.kept hbw)).mono ?_
  rintro e w3 ⟨rfl, b3⟩
  replace r1 := r1.kept b3
  replace hbw := stepB hbw b3
  clear b3
  obtain ⟨f, hf⟩ : ∃ f : Bool, f = fwB p := ⟨_, rfl⟩
  rw [← hf]
  cases f with
  | false =>
    clear hf
    go_wp2
    go_ret
    exact ⟨rfl, hbw⟩
  | true =>
    have HF : Hid _ := fwB_n hf.symm
    clear hf
    by_cases hl : 100 < n
    · have d1 : decide ((100 : Int) < (n : Int)) = true := decide_eq_true (by omega)
      have d2 : (100 : Int) < (n : Int) := by omega
      go_wp2
      go_ret
      exact ⟨rfl, hbw⟩
    · have d1 : decide ((100 : Int) < (n : Int)) = false := decide_eq_false (by omega)
      have d2 : (n : Int) ≤ (100 : Int) := by omega
      have HR1 : Hid (BlkAt w.heap.size 26 (paC p vm) w3) := r1
      have HBw : Hid (Below w.heap.size w w3) := hbw
      have hO0 : OwnG w3 [⟨57, 2, .slice none 0 0, 0, kyC (ks.take 0)⟩] w3 := (OwnG.start w3).nil 57 2
      clear r1 hbw
      go_wp2
      go_loopw [11, 12] (fun ov iv wx => ∃ i : Nat, i ≤ n ∧ iv = .int .i64 (i : Int) ∧ OwnG w3 [⟨57, 2, ov, i, kyC (ks.take i)⟩] wx) (fun _ iv _ => n - (intOf iv).toNat)
      case atStart => exact ⟨0, by omega, rfl, hO0⟩
      case round =>
        obtain ⟨i, hi, rfl, hO⟩ := hrel
        clear hO0
        by_cases hlt : i < n
        · have hd : decide ((i : Int) < (n : Int)) = true := decide_eq_true (by omega)
          have hiI : (i : Int) < (n : Int) := by omega
          obtain ⟨b, off, ea, k1, k2⟩ := (HK.out.kept HBw.out).at (k := i) (by have := HN.out; omega)
          subst ea
          have hb3 : b < w3.heap.size := World.block_lt_of_cell? _ _ k1
          obtain ⟨q, hq⟩ : ∃ q : Bool, q = (ks.getD i (false, 0)).1 := ⟨_, rfl⟩
          obtain ⟨t, ht⟩ : ∃ t : Int, t = (ks.getD i (false, 0)).2 := ⟨_, rfl⟩
          rw [← hq] at k1
          rw [← ht] at k2
          have HNx : Hid (kyC (ks.take i) ++ [.bool q, .int .i64 t] = kyC (ks.take (i + 1))) := by
            show _ = _
            rw [take_key ks i (by have := HN.out; omega), hq, ht, kyC_next]
          have hS : Ck b (off + i * 2) q t wr.drew := (show Ck b (off + i * 2) q t w3 from ⟨k1, k2⟩).kept hO.below.drew
          have hOd := hO.drew
          have HFr : Hid (¬ some b = u11.ownBlock) := fun e => by have := ((hO.rows _ (List.mem_cons_self ..)).lt b e.symm).1; omega
          generalize kyC (ks.take i) = KT at hOd HNx
          clear hO k1 k2 hq ht hb3
          have bk := fun w => build_KR q t w
          go_wp2_with fail
          refine wpS_begin (Ck b (off + i * 2) q t) (by kernel_rfl) ?_
          refine wpS_take (hS := hS) (i := 0) (oi := { dst := some 31, op := Op.move (Operand.tmp 11), type := 50, pos := "law.go:138", after := #[], guard := none }) (v := ?_) rfl (by kernel_rfl) (by kernel_rfl) (by kernel_rfl) (by rfl) ?_ ?_
          rotate_left
          · intro W hW; first | (go_simp; done) | (go_simp; with_reducible rfl)
          try simp only [Act.put, List.setIfInBounds_toArray, List.set_cons_zero, List.set_cons_succ]
          refine wpS_take (hS := hS) (i := 1) (oi := { dst := some 32, op := Op.move (Operand.tmp 3), type := 49, pos := "law.go:138", after := #[], guard := none }) (v := ?_) rfl (by kernel_rfl) (by kernel_rfl) (by kernel_rfl) (by rfl) ?_ ?_
          rotate_left
          · intro W hW; first | (go_simp; done) | (go_simp; with_reducible rfl)
          try simp only [Act.put, List.setIfInBounds_toArray, List.set_cons_zero, List.set_cons_succ]
          refine wpS_take (hS := hS) (i := 2) (oi := { dst := some 33, op := Op.move (Operand.tmp 12), type := 3, pos := "law.go:138", after := #[], guard := none }) (v := ?_) rfl (by kernel_rfl) (by kernel_rfl) (by kernel_rfl) (by rfl) ?_ ?_
          rotate_left
          · intro W hW; first | (go_simp; done) | (go_simp; with_reducible rfl)
          try simp only [Act.put, List.setIfInBounds_toArray, List.set_cons_zero, List.set_cons_succ]
          refine wpS_take (hS := hS) (i := 3) (oi := { dst := some 34, op := Op.indexAddr 49 (Operand.tmp 32) (Operand.tmp 33), type := 0, pos := "law.go:138", after := #[{ on := 1, ground := Ground.data }, { on := 2, ground := Ground.data }], guard := none }) (v := ?_) rfl (by kernel_rfl) (by kernel_rfl) (by kernel_rfl) (by rfl) ?_ ?_
          rotate_left
          · intro W hW; first | (go_simp; done) | (go_simp; with_reducible rfl)
          try simp only [Act.put, List.setIfInBounds_toArray, List.set_cons_zero, List.set_cons_succ]
          refine wpS_take (hS := hS) (i := 4) (oi := { dst := some 35, op := Op.fieldAddr 55 (Operand.tmp 34) 0, type := 0, pos := "law.go:138", after := #[{ on := 3, ground := Ground.data }], guard := none }) (v := ?_) rfl (by kernel_rfl) (by kernel_rfl) (by kernel_rfl) (by rfl) ?_ ?_
          rotate_left
          · intro W hW; first | (go_simp; done) | (go_simp; with_reducible rfl)
          try simp only [Act.put, List.setIfInBounds_toArray, List.set_cons_zero, List.set_cons_succ]
          refine wpS_take (hS := hS) (i := 5) (oi := { dst := some 36, op := Op.load 4 (Operand.tmp 35), type := 4, pos := "law.go:138", after := #[{ on := 4, ground := Ground.data }], guard := none }) (v := ?_) rfl (by kernel_rfl) (by kernel_rfl) (by kernel_rfl) (by rfl) ?_ ?_
          rotate_left
          · intro W hW; have cW := hW.who; first | (go_simp; done) | (go_simp; with_reducible rfl)
          try simp only [Act.put, List.setIfInBounds_toArray, List.set_cons_zero, List.set_cons_succ]
          refine wpS_take (hS := hS) (i := 6) (oi := { dst := some 37, op := Op.move (Operand.tmp 3), type := 49, pos := "law.go:138", after := #[], guard := none }) (v := ?_) rfl (by kernel_rfl) (by kernel_rfl) (by kernel_rfl) (by rfl) ?_ ?_
          rotate_left
          · intro W hW; first | (go_simp; done) | (go_simp; with_reducible rfl)
          try simp only [Act.put, List.setIfInBounds_toArray, List.set_cons_zero, List.set_cons_succ]
          refine wpS_take (hS := hS) (i := 7) (oi := { dst := some 38, op := Op.move (Operand.tmp 12), type := 3, pos := "law.go:138", after := #[], guard := none }) (v := ?_) rfl (by kernel_rfl) (by kernel_rfl) (by kernel_rfl) (by rfl) ?_ ?_
          rotate_left
          · intro W hW; first | (go_simp; done) | (go_simp; with_reducible rfl)
          try simp only [Act.put, List.setIfInBounds_toArray, List.set_cons_zero, List.set_cons_succ]
          refine wpS_take (hS := hS) (i := 8) (oi := { dst := some 39, op := Op.indexAddr 49 (Operand.tmp 37) (Operand.tmp 38), type := 0, pos := "law.go:138", after := #[{ on := 6, ground := Ground.data }, { on := 7, ground := Ground.data }], guard := none }) (v := ?_) rfl (by kernel_rfl) (by kernel_rfl) (by kernel_rfl) (by rfl) ?_ ?_
          rotate_left
          · intro W hW; first | (go_simp; done) | (go_simp; with_reducible rfl)
          try simp only [Act.put, List.setIfInBounds_toArray, List.set_cons_zero, List.set_cons_succ]
          refine wpS_take (hS := hS) (i := 9) (oi := { dst := some 40, op := Op.fieldAddr 55 (Operand.tmp 39) 1, type := 0, pos := "law.go:138", after := #[{ on := 8, ground := Ground.data }], guard := none }) (v := ?_) rfl (by kernel_rfl) (by kernel_rfl) (by kernel_rfl) (by rfl) ?_ ?_
          rotate_left
          · intro W hW; first | (go_simp; done) | (go_simp; with_reducible rfl)
          try simp only [Act.put, List.setIfInBounds_toArray, List.set_cons_zero, List.set_cons_succ]
          refine wpS_take (hS := hS) (i := 10) (oi := { dst := some 41, op := Op.load 53 (Operand.tmp 40), type := 53, pos := "law.go:138", after := #[{ on := 9, ground := Ground.data }], guard := none }) (v := ?_) rfl (by kernel_rfl) (by kernel_rfl) (by kernel_rfl) (by rfl) ?_ ?_
          rotate_left
          · intro W hW; have cW := hW.kind; first | (go_simp; done) | (go_simp; with_reducible rfl)
          try simp only [Act.put, List.setIfInBounds_toArray, List.set_cons_zero, List.set_cons_succ]
          refine wpS_take (hS := hS) (i := 11) (oi := { dst := some 42, op := Op.build 57 #[(0, Operand.tmp 36), (1, Operand.tmp 41)], type := 57, pos := "law.go:138", after := #[{ on := 5, ground := Ground.data }, { on := 10, ground := Ground.data }], guard := none }) (v := ?_) rfl (by kernel_rfl) (by kernel_rfl) (by kernel_rfl) (by rfl) ?_ ?_
          rotate_left
          · intro W hW; have bW := bk W; first | (go_simp; done) | (go_simp; with_reducible rfl)
          try simp only [Act.put, List.setIfInBounds_toArray, List.set_cons_zero, List.set_cons_succ]
          refine wpS_do (i := 12) (o := { dst := some 43, op := Op.buildSlice 50 1 #[(0, Operand.tmp 42)], type := 50, pos := "law.go:138", after := #[{ on := 11, ground := Ground.data }], guard := none }) (by kernel_rfl) rfl (by rfl) fun K hK => ?_
          go_simp
          replace hS := hS.kept (growB (.cells #[.bool q, .int .i64 t] 57))
          refine hK.out _ _ hS ?_
          clear hK K
          try simp only [Act.put, List.setIfInBounds_toArray, List.set_cons_zero, List.set_cons_succ]
          refine wpS_do (i := 13) (o := { dst := some 44, op := Op.call { callee := Callee.builtin Builtin.append, args := #[Operand.tmp 31, Operand.tmp 43], argTypes := #[50, 50] }, type := 50, pos := "law.go:138", after := #[{ on := 0, ground := Ground.data }, { on := 12, ground := Ground.data }], guard := none }) (by kernel_rfl) rfl (by rfl) fun K hK => ?_
          refine wp_append_E _ _ 50 rfl 57 ti _ 2 16 Tryz.underlying50 hti hz0 hz1 hz2 rfl (by decide) _ i KT rfl (hOd.kept (growB _)) ⟨wr.heap.size, 0, none⟩ 1 1 [.bool q, .int .i64 t] rfl rfl (news2 _ _ rfl) (oneSay q t) (by unfold maxLen; omega) (by omega) ?_
          intro v8 w8 hO8 hC8
          replace hS := hS.chg hC8 HFr.out
          refine hK.out _ _ hS ?_
          clear hK K
          try simp only [Act.put, List.setIfInBounds_toArray, List.set_cons_zero, List.set_cons_succ]
          refine wpS_take (hS := hS) (i := 14) (oi := { dst := some 11, op := Op.assign (Operand.tmp 44), type := 50, pos := "law.go:138", after := #[{ on := 13, ground := Ground.data }, { on := 13, ground := Ground.chain }, { on := 0, ground := Ground.phase }, { on := 1, ground := Ground.phase }, { on := 2, ground := Ground.phase }, { on := 3, ground := Ground.phase }, { on := 4, ground := Ground.phase }, { on := 5, ground := Ground.phase }, { on := 6, ground := Ground.phase }, { on := 7, ground := Ground.phase }, { on := 8, ground := Ground.phase }, { on := 9, ground := Ground.phase }, { on := 10, ground := Ground.phase }, { on := 11, ground := Ground.phase }, { on := 12, ground := Ground.phase }, { on := 13, ground := Ground.phase }], guard := none }) (v := ?_) rfl (by kernel_rfl) (by kernel_rfl) (by kernel_rfl) (by rfl) ?_ ?_
          rotate_left
          · intro W hW; first | (go_simp; done) | (go_simp; with_reducible rfl)
          try simp only [Act.put, List.setIfInBounds_toArray, List.set_cons_zero, List.set_cons_succ]
          refine wpS_done (by kernel_rfl) ?_
          rw [HNx.out] at hO8
          clear hC8 hS hOd HFr bk
          go_wp2
          go_roundw
          case rel => exact ⟨i + 1, by omega, by go_num, hO8⟩
          case measure => simp [intOf] <;> omega
        · have hd : decide ((i : Int) < (n : Int)) = false := decide_eq_false (by omega)
          have hiI : (n : Int) ≤ (i : Int) := by omega
          have HKr : Hid (RdE wr.drew u11 2 ks.length (kyC ks)) := by
            have e : i = ks.length := by have := HN.out; omega
            have h1 := RdE.of_own (hO.rows _ (List.mem_cons_self ..))
            simp only [e, List.take_length] at h1
            exact h1
          have hb3 := hO.below.drew
          have rd : BlkAt w.heap.size 26 (paC p vm) wr.drew := HR1.out.kept hb3
          have hbw := stepB HBw.out hb3
          have HMd : Hid (MsR wr.drew vm p) := HM.out.kept hbw
          have HKd : Hid (KyR wr.drew (.slice ak n ck) ks) := HK.out.kept hbw
          obtain ⟨D, hD⟩ : ∃ d : Bool, d = drB p curve kem ks := ⟨_, rfl⟩
          have HD : Hid (D = drB p curve kem ks) := hD
          have q1 : (D == D) = true := by simp
          clear hO hb3 hD
          go_wp2_with fail
          refine wpG_begin (by kernel_rfl) ?_
          refine wpG_take (i := 0) (oi := { dst := some 45, op := Op.load 26 (Operand.tmp 4), type := 26, pos := "law.go:140", after := #[], guard := none }) (v := ?_) rfl (by kernel_rfl) (by kernel_rfl) (by kernel_rfl) (by rfl) ?_ ?_
          rotate_left
          · intro W hW; refine Eq.trans (exec_load_part 26 _ (by rfl) (by rfl) [] (paC p vm) [] rd hW (whole15 _) rfl Tryz.underlying26 rfl (paInfo p _)) ?_; with_reducible rfl
          try simp only [Act.put, List.setIfInBounds_toArray, List.set_cons_zero, List.set_cons_succ]
          refine wpG_take (i := 1) (oi := { dst := some 46, op := Op.move (Operand.tmp 1), type := 4, pos := "law.go:140", after := #[], guard := none }) (v := ?_) rfl (by kernel_rfl) (by kernel_rfl) (by kernel_rfl) (by rfl) ?_ ?_
          rotate_left
          · intro W hW; first | (go_simp; done) | (go_simp; with_reducible rfl)
          try simp only [Act.put, List.setIfInBounds_toArray, List.set_cons_zero, List.set_cons_succ]
          refine wpG_take (i := 2) (oi := { dst := some 47, op := Op.move (Operand.tmp 2), type := 4, pos := "law.go:140", after := #[], guard := none }) (v := ?_) rfl (by kernel_rfl) (by kernel_rfl) (by kernel_rfl) (by rfl) ?_ ?_
          rotate_left
          · intro W hW; first | (go_simp; done) | (go_simp; with_reducible rfl)
          try simp only [Act.put, List.setIfInBounds_toArray, List.set_cons_zero, List.set_cons_succ]
          refine wpG_take (i := 3) (oi := { dst := some 48, op := Op.move (Operand.tmp 3), type := 49, pos := "law.go:140", after := #[], guard := none }) (v := ?_) rfl (by kernel_rfl) (by kernel_rfl) (by kernel_rfl) (by rfl) ?_ ?_
          rotate_left
          · intro W hW; first | (go_simp; done) | (go_simp; with_reducible rfl)
          try simp only [Act.put, List.setIfInBounds_toArray, List.set_cons_zero, List.set_cons_succ]
          refine wpG_take (i := 5) (oi := { dst := some 50, op := Op.load 26 (Operand.tmp 4), type := 26, pos := "law.go:140", after := #[], guard := none }) (v := ?_) rfl (by kernel_rfl) (by kernel_rfl) (by kernel_rfl) (by rfl) ?_ ?_
          rotate_left
          · intro W hW; refine Eq.trans (exec_load_part 26 _ (by rfl) (by rfl) [] (paC p vm) [] rd hW (whole15 _) rfl Tryz.underlying26 rfl (paInfo p _)) ?_; with_reducible rfl
          try simp only [Act.put, List.setIfInBounds_toArray, List.set_cons_zero, List.set_cons_succ]
          refine wpG_take (i := 7) (oi := { dst := some 52, op := Op.move (Operand.tmp 1), type := 4, pos := "law.go:140", after := #[], guard := none }) (v := ?_) rfl (by kernel_rfl) (by kernel_rfl) (by kernel_rfl) (by rfl) ?_ ?_
          rotate_left
          · intro W hW; first | (go_simp; done) | (go_simp; with_reducible rfl)
          try simp only [Act.put, List.setIfInBounds_toArray, List.set_cons_zero, List.set_cons_succ]
          refine wpG_take (i := 8) (oi := { dst := some 53, op := Op.move (Operand.tmp 2), type := 4, pos := "law.go:140", after := #[], guard := none }) (v := ?_) rfl (by kernel_rfl) (by kernel_rfl) (by kernel_rfl) (by rfl) ?_ ?_
          rotate_left
          · intro W hW; first | (go_simp; done) | (go_simp; with_reducible rfl)
          try simp only [Act.put, List.setIfInBounds_toArray, List.set_cons_zero, List.set_cons_succ]
          refine wpG_take (i := 9) (oi := { dst := some 54, op := Op.move (Operand.tmp 11), type := 50, pos := "law.go:140", after := #[], guard := none }) (v := ?_) rfl (by kernel_rfl) (by kernel_rfl) (by kernel_rfl) (by rfl) ?_ ?_
          rotate_left
          · intro W hW; first | (go_simp; done) | (go_simp; with_reducible rfl)
          try simp only [Act.put, List.setIfInBounds_toArray, List.set_cons_zero, List.set_cons_succ]
          refine wpG_do (i := 4) (o := { dst := some 49, op := Op.call { callee := Callee.value (Operand.func 23), args := #[Operand.tmp 45, Operand.tmp 46, Operand.tmp 47, Operand.tmp 48], argTypes := #[26, 4, 4, 49] }, type := 4, pos := "law.go:140", after := #[{ on := 0, ground := Ground.data }, { on := 1, ground := Ground.data }, { on := 2, ground := Ground.data }, { on := 3, ground := Ground.data }], guard := none }) (by kernel_rfl) rfl (by rfl) fun K hK => ?_
          go_simp
          refine (derivable_any p vm curve kem ks _ _ rfl HL.out _ HMd.out HKd.out).mono ?_
          rintro e w4 ⟨rfl, b4⟩
          rw [← HD.out]
          refine hK.out _ _ b4 ?_
          clear hK K
          try simp only [Act.put, List.setIfInBounds_toArray, List.set_cons_zero, List.set_cons_succ]
          refine wpG_do (i := 6) (o := { dst := some 51, op := Op.call { callee := Callee.value (Operand.func 13), args := #[Operand.tmp 50], argTypes := #[26] }, type := 33, pos := "law.go:140", after := #[{ on := 5, ground := Ground.data }, { on := 4, ground := Ground.chain }], guard := none }) (by kernel_rfl) rfl (by rfl) fun K hK => ?_
          go_simp
          refine (model_any p vm _ rfl (Nat.le_trans HF.out.1 (by decide)) (fun k => Nat.le_trans (HF.out.2.2 k) (by decide)) _ (HMd.out.kept b4)).mono ?_
          rintro e w5 ⟨vi, vl, rfl, hR, b5⟩
          refine hK.out _ _ b5 ?_
          clear hK K
          try simp only [Act.put, List.setIfInBounds_toArray, List.set_cons_zero, List.set_cons_succ]
          refine wpG_do (i := 10) (o := { dst := some 55, op := Op.call { callee := Callee.value (Operand.func 24), args := #[Operand.tmp 51, Operand.tmp 52, Operand.tmp 53, Operand.tmp 54], argTypes := #[33, 4, 4, 50] }, type := 4, pos := "law.go:140", after := #[{ on := 6, ground := Ground.data }, { on := 7, ground := Ground.data }, { on := 8, ground := Ground.data }, { on := 9, ground := Ground.data }, { on := 6, ground := Ground.chain }], guard := none }) (by kernel_rfl) rfl (by rfl) fun K hK => ?_
          go_simp
          refine (derivable15_any p (Nat.le_trans HF.out.2.1 (by decide)) _ vi vl rfl curve kem _ ks _ hR ((HKr.out.kept b4).kept b5)).mono ?_
          rintro e w6 ⟨rfl, b6⟩
          rw [← HD.out]
          refine hK.out _ _ b6 ?_
          clear hK K
          try simp only [Act.put, List.setIfInBounds_toArray, List.set_cons_zero, List.set_cons_succ]
          refine wpG_take (i := 11) (oi := { dst := some 56, op := Op.binOp BinOp.eql 4 (Operand.tmp 49) (Operand.tmp 55) 4, type := 4, pos := "law.go:140", after := #[{ on := 4, ground := Ground.data }, { on := 10, ground := Ground.data }], guard := none }) (v := ?_) rfl (by kernel_rfl) (by kernel_rfl) (by kernel_rfl) (by rfl) ?_ ?_
          rotate_left
          · intro W hW; first | (go_simp; done) | (go_simp; with_reducible rfl)
          try simp only [Act.put, List.setIfInBounds_toArray, List.set_cons_zero, List.set_cons_succ]
          refine wpG_take (i := 12) (oi := { dst := some 8, op := Op.assign (Operand.tmp 56), type := 4, pos := "law.go:140", after := #[{ on := 11, ground := Ground.data }, { on := 10, ground := Ground.chain }, { on := 0, ground := Ground.phase }, { on := 1, ground := Ground.phase }, { on := 2, ground := Ground.phase }, { on := 3, ground := Ground.phase }, { on := 4, ground := Ground.phase }, { on := 5, ground := Ground.phase }, { on := 6, ground := Ground.phase }, { on := 7, ground := Ground.phase }, { on := 8, ground := Ground.phase }, { on := 9, ground := Ground.phase }, { on := 10, ground := Ground.phase }, { on := 11, ground := Ground.phase }], guard := none }) (v := ?_) rfl (by kernel_rfl) (by kernel_rfl) (by kernel_rfl) (by rfl) ?_ ?_
          rotate_left
          · intro W hW; first | (go_simp; done) | (go_simp; with_reducible rfl)
          try simp only [Act.put, List.setIfInBounds_toArray, List.set_cons_zero, List.set_cons_succ]
          refine wpG_done (by kernel_rfl) ?_
          have b7 := stepB hbw (stepB b4 (stepB b5 b6))
          go_wp2
          go_ret
          exact ⟨rfl, b7⟩
end Go.Proofs.YtpoibhhijidobaaGreatDoor
