/- A power of X times a polynomial moves it, round the end with the other sign, and what a power is by its factors is the document's: the walk. -/
import Derived.Test.YtbladcgdbhogcabDoorN11j
import Derived.Test.YtbladcgdbhogcabDoorRef11c
namespace Go.Proofs.YtbladcgdbhogcabDoor
open Go.ChangeShapes Go.WideShapes Go.ChangeAt Go.RowKit
set_option linter.unusedSimpArgs false
set_option linter.unusedVariables false

theorem wf_in11 {a : Int} (h : (Lit.int .i64 a).wf = true) : In64 a := by
  have := bounds_i64 h
  exact ⟨by omega, by omega⟩
/-- One number alone, at k. -/
def onI (k : Nat) (c : Int) (i : Nat) : Int := if i = k then c else 0
theorem onI_po {c : Int} (k : Nat) (h : In64 c) : Po (onI k c) := ⟨fun i => by
  unfold onI
  by_cases e : i = k
  · rw [if_pos e]
    exact h
  · rw [if_neg e]
    exact ⟨by omega, by omega⟩⟩
theorem onI_rF (k : Nat) (c : Int) : rF (onI k c) = unZ k (ni c) := by
  funext i
  unfold rF onI unZ
  by_cases h : i = k
  · rw [if_pos h, if_pos h]
    rfl
  · rw [if_neg h, if_neg h]
    rfl
theorem mv_on (f : Nat → FZ) (K i : Nat) (c : FZ) : mvZ f K c (i + K) = f i * c := by
  unfold mvZ
  rw [if_pos (by omega), Nat.add_sub_cancel]
theorem mv_round (f : Nat → FZ) (K i t : Nat) (c : FZ) (hi : i < 256) (ht : t + 256 = i + K) : mvZ f K c t = -(f i * c) := by
  unfold mvZ
  rw [if_neg (by omega), ht, Nat.add_sub_cancel]
theorem neg_of (x : FZ) : ni 0 - ni ((x.val : Nat) : Int) = -x := by
  rw [ni_fz, show ni 0 = 0 from rfl]
  grind -lia

set_option maxRecDepth 100000 in
set_option maxHeartbeats 4000000 in
theorem powers_walk (A : Array Value) (F : Nat → Int) (hF : Po F) (hA : A = ((gI F).map (Value.int .i64)).toArray) (k c : Int) (wk : (Lit.int .i64 k).wf = true) (wc : (Lit.int .i64 c).wf = true) (w : World) (hT : PwT w) :
    Calls Tryd.prog 3 #[.agg A, .int .i64 k, .int .i64 c] w fun e w' => e = .returned (.bool true) ∧ Below w.heap.size w w' := by
  have HF : Hid (Po F) := hF
  have HT : Hid (PwT w) := hT
  have HC : Hid (In64 c) := wf_in11 wc
  have hand : bits .and .i64 k 255 = ((twZ 8 k : Nat) : Int) := and_low 8 (by decide) k (wf_in11 wk)
  have hK : twZ 8 k < 256 := by unfold twZ; omega
  generalize twZ 8 k = kN at hand hK
  have hKI : (kN : Int) < 256 := by omega
  have HP : Hid (Po (onI kN c)) := onI_po kN HC.out
  clear hF hT wk wc
  go_enter Tryd.func3, Tryd.ntmps3
  go_wp2_with (refine wpList_box_row (k := .i64) rfl 22 _ rfl (gI F) (by rw [← hA]; rfl) (gI_ne _) (poMax _) ?_)
  intro w1 qF bn sn
  rw [gI_length] at qF
  have hbw := bn
  clear bn sn hA
  go_wp2_with fail
  refine (awake_any _ (HT.out.kept hbw)).mono ?_
  rintro e w2 ⟨rfl, bn⟩
  replace qF := qF.kept bn
  replace hbw := stepB hbw bn
  clear bn
  go_wp2_with (refine wpList_alloc_row (k := .i64) rfl 22 rfl (gI fun _ => 0) (alloc_po _) (gI_ne _) (poMax _) ?_)
  intro w3 qX b3 s3
  rw [gI_length] at qX
  have n2 := qF.lt
  have hb0 := b3
  clear s3
  go_wp2_with (refine wpList_store_int rfl _ _ rfl rfl c rfl qX (by rw [gI_length]; exact hK) ?_)
  intro w4 rX hw
  rw [gI_set] at rX
  replace rX : RowAt .i64 22 w2.heap.size 256 (gI (onI kN c)) w4 := rX
  replace hb0 := hw.below _ _ (Nat.le_refl _) hb0
  replace qF := qF.kept hb0
  replace hbw := stepB hbw hb0
  clear hb0 hw b3 qX n2
  go_wp2_with (first | refine wpList_load_row rfl 22 _ rfl rfl qF _ Tryd.underlying22 rfl (poInfo _) ?_ | refine wpList_load_row rfl 22 _ rfl rfl rX _ Tryd.underlying22 rfl (poInfo _) ?_)
  refine (nproduct_any _ _ F (onI kN c) HF.out HP.out rfl rfl _ (HT.out.kept hbw)).mono ?_
  rintro e w5 ⟨he, bn⟩
  obtain ⟨Y, hY⟩ : ∃ P : Nat → FZ, P = pd (rF F) (rF (onI kN c)) := ⟨_, rfl⟩
  rw [← hY] at he
  subst he
  have HY : Hid (∀ p, p < 256 → Y p = mvZ (rF F) kN (ni c) p) := by
    show ∀ p, _
    intro p hp
    rw [hY, onI_rF]
    exact pd_un _ kN hK _ p hp
  clear hY
  have hb0 := bn
  go_wp2_with (refine wpList_alloc_row (k := .i64) rfl 24 rfl (gI fun _ => 0) (alloc_poA _) (gI_ne _) (poMax _) ?_)
  intro w6 ro bo so
  rw [gI_length] at ro
  replace hb0 := stepB hb0 bo
  clear so bo
  go_wp2_with (refine wpList_store_row rfl 24 _ _ rfl (gI (fzF Y)) rfl rfl ro (by rw [gI_length, gI_length]) (poInfoA _) ?_)
  intro w7 qY hw
  replace hb0 := hw.below _ _ bn.size hb0
  replace qF := qF.kept hb0
  replace rX := rX.kept hb0
  replace hbw := stepB hbw hb0
  clear hb0 hw bn ro
  go_wp2
  go_loopw [10] (fun iv wx => ∃ i : Nat, i ≤ 256 ∧ iv = .int .i64 (i : Int) ∧ wx = w7) (fun iv _ => 256 - (intOf iv).toNat)
  case atStart => exact ⟨0, by omega, rfl, rfl⟩
  case round =>
    obtain ⟨i, hi, rfl, hwr⟩ := hrel
    subst hwr
    by_cases hlt : i < 256
    · have hd : decide ((i : Int) < 256) = true := decide_eq_true (by omega)
      have hiI : (i : Int) < 256 := by omega
      have hc := qF.cell (j := i) (by rw [gI_length]; exact hlt)
      rw [gI_get _ hlt] at hc
      obtain ⟨m, hm⟩ : ∃ m : Nat, m = i + kN := ⟨_, rfl⟩
      have x1 : IntKind.i64.wrap ((i : Int) + (kN : Int)) = (m : Int) := by rw [IntWalk.i64_in _ (by omega)]; omega
      obtain ⟨v, hv⟩ : ∃ v : FZ, v = rF F i * ni c := ⟨_, rfl⟩
      have HV : Hid (ni (F i) * ni c = v) := by show _ = _; rw [hv]; rfl
      go_wp2_with fail
      refine (zmulF (F i) c (HF.out.in64 i) HC.out _).mono ?_
      rintro e w8 ⟨rfl, rfl⟩
      rw [HV.out]
      by_cases hov : m < 256
      · have hd2 : decide ((256 : Int) ≤ (m : Int)) = false := decide_eq_false (by omega)
        have hd3 : (m : Int) < 256 := by omega
        have hy := cell_fz qY m hov ((v.val : Nat) : Int) (by rw [HY.out m hov, hm, mv_on, hv])
        have hnn : (((v.val : Nat) : Int) != ((v.val : Nat) : Int)) = false := by simp
        clear hm hv
        go_wp2
        go_roundw
        case rel => exact ⟨i + 1, by omega, by go_num, trivial⟩
        case measure => simp [intOf] <;> omega
      · have hd2 : decide ((256 : Int) ≤ (m : Int)) = true := decide_eq_true (by omega)
        have hd3 : (256 : Int) ≤ (m : Int) := by omega
        obtain ⟨t, ht⟩ : ∃ t : Nat, t + 256 = i + kN := ⟨i + kN - 256, by omega⟩
        have hov2 : t < 256 := by omega
        have hov3 : (t : Int) < 256 := by omega
        have x2 : IntKind.i64.wrap ((m : Int) - 256) = (t : Int) := by rw [IntWalk.i64_in _ (by omega)]; omega
        have hy := cell_fz qY t hov2 (((-v).val : Nat) : Int) (by rw [HY.out t hov2, mv_round _ kN i t _ hlt ht, hv])
        have hnn : ((((-v).val : Nat) : Int) != (((-v).val : Nat) : Int)) = false := by simp
        clear hm hv ht
        go_wp2_with fail
        refine (zsubF 0 ((v.val : Nat) : Int) ⟨by omega, by omega⟩ (in64_fz v) _).mono ?_
        rintro e w8 ⟨rfl, rfl⟩
        rw [neg_of]
        go_wp2
        go_roundw
        case rel => exact ⟨i + 1, by omega, by go_num, trivial⟩
        case measure => simp [intOf] <;> omega
    · have hie : i = 256 := by omega
      have hd : decide ((i : Int) < 256) = false := decide_eq_false (by omega)
      have hiI : (256 : Int) ≤ (i : Int) := by omega
      clear hie
      go_wp2_with fail
      replace rX := rX.drew
      replace hbw := hbw.drew
      refine wpG_begin (by kernel_rfl) ?_
      refine wpG_take (i := 0) (oi := { dst := some 47, op := Op.load 22 (Operand.tmp 8), type := 22, pos := "law.go:104", after := #[], guard := none }) (v := ?_) rfl (by kernel_rfl) (by kernel_rfl) (by kernel_rfl) (by rfl) ?_ ?_
      rotate_left
      · intro W hW; refine Eq.trans (exec_load_row' 22 _ (by rfl) (by rfl) rX hW _ Tryd.underlying22 rfl (poInfo _)) ?_; with_reducible rfl
      try simp only [Act.put, List.setIfInBounds_toArray, List.set_cons_zero, List.set_cons_succ]
      refine wpG_take (i := 2) (oi := { dst := some 49, op := Op.load 22 (Operand.tmp 8), type := 22, pos := "law.go:104", after := #[], guard := none }) (v := ?_) rfl (by kernel_rfl) (by kernel_rfl) (by kernel_rfl) (by rfl) ?_ ?_
      rotate_left
      · intro W hW; refine Eq.trans (exec_load_row' 22 _ (by rfl) (by rfl) rX hW _ Tryd.underlying22 rfl (poInfo _)) ?_; with_reducible rfl
      try simp only [Act.put, List.setIfInBounds_toArray, List.set_cons_zero, List.set_cons_succ]
      refine wpG_do (i := 1) (o := { dst := some 48, op := Op.call { callee := Callee.value (Operand.func 8), args := #[Operand.tmp 47], argTypes := #[24] }, type := 24, pos := "law.go:104", after := #[{ on := 0, ground := Ground.data }], guard := none }) (by kernel_rfl) rfl (by rfl) fun K hK => ?_
      go_simp
      refine (nforward_any _ (onI kN c) HP.out rfl _ (HT.out.kept hbw)).mono ?_
      rintro e w8 ⟨he, b8⟩
      obtain ⟨P1, hP⟩ : ∃ P : Nat → FZ, P = fwd (rF (onI kN c)) := ⟨_, rfl⟩
      rw [← hP] at he
      subst he
      have E1 : Hid (P1 = fwd (rF (onI kN c))) := hP
      clear hP
      replace rX := rX.kept b8
      replace hbw := stepB hbw b8
      refine hK.out _ _ b8 ?_
      clear hK K
      try simp only [Act.put, List.setIfInBounds_toArray, List.set_cons_zero, List.set_cons_succ]
      refine wpG_do (i := 3) (o := { dst := some 50, op := Op.call { callee := Callee.value (Operand.func 9), args := #[Operand.tmp 49], argTypes := #[22] }, type := 22, pos := "law.go:104", after := #[{ on := 2, ground := Ground.data }, { on := 1, ground := Ground.chain }], guard := none }) (by kernel_rfl) rfl (by rfl) fun K hK => ?_
      go_simp
      refine (forward11_any _ (onI kN c) HP.out rfl _).mono ?_
      rintro e w9 ⟨he, b9⟩
      obtain ⟨P2, hP⟩ : ∃ P : Nat → FZ, P = fwd (rF (onI kN c)) := ⟨_, rfl⟩
      rw [← hP] at he
      subst he
      have E2 : Hid (P2 = fwd (rF (onI kN c))) := hP
      clear hP
      replace hbw := stepB hbw b9
      refine hK.out _ _ b9 ?_
      clear hK K
      try simp only [Act.put, List.setIfInBounds_toArray, List.set_cons_zero, List.set_cons_succ]
      refine wpG_take (i := 4) (oi := { dst := some 51, op := Op.binOp BinOp.eql 24 (Operand.tmp 48) (Operand.tmp 50) 24, type := 4, pos := "law.go:104", after := #[{ on := 1, ground := Ground.data }, { on := 3, ground := Ground.data }], guard := none }) (v := ?_) rfl (by kernel_rfl) (by kernel_rfl) (by kernel_rfl) (by rfl) ?_ ?_
      rotate_left
      · intro W hW; have he := eq_poA (f := P1) (g := P2) (fun k hk => by rw [E1.out, E2.out]) W; first | (go_simp; done) | (go_simp; with_reducible rfl)
      try simp only [Act.put, List.setIfInBounds_toArray, List.set_cons_zero, List.set_cons_succ]
      refine wpG_take (i := 5) (oi := { dst := some 6, op := Op.assign (Operand.tmp 51), type := 4, pos := "law.go:104", after := #[{ on := 4, ground := Ground.data }, { on := 3, ground := Ground.chain }, { on := 0, ground := Ground.phase }, { on := 1, ground := Ground.phase }, { on := 2, ground := Ground.phase }, { on := 3, ground := Ground.phase }, { on := 4, ground := Ground.phase }], guard := none }) (v := ?_) rfl (by kernel_rfl) (by kernel_rfl) (by kernel_rfl) (by rfl) ?_ ?_
      rotate_left
      · intro W hW; first | (go_simp; done) | (go_simp; with_reducible rfl)
      try simp only [Act.put, List.setIfInBounds_toArray, List.set_cons_zero, List.set_cons_succ]
      refine wpG_done (by kernel_rfl) ?_
      go_wp2
      go_ret
      exact ⟨rfl, hbw⟩
end Go.Proofs.YtbladcgdbhogcabDoor
