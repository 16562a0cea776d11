/- A message's pieces, put in in any order: the law's walk (w19b.py writes it). -/
import Derived.Test.YtkljklfejaojaaaSc19
import Derived.Test.YtkljklfejaojaaaBkMath
import Derived.Test.YtkljklfejaojaaaIntF
import Derived.Deep.DeepCutAuto
namespace Go.Proofs.Ytkljklfejaojaaa
open Go.ChangeShapes Go.WideShapes Go.ChangeAt Go.RowKit
set_option linter.unusedSimpArgs false
set_option linter.unusedVariables false

def intsL (lf : List Nat) : List Value := lf.map fun x => Value.int .i64 ((x : Nat) : Int)
theorem intsL_length (lf : List Nat) : (intsL lf).length = lf.length := by simp [intsL]
theorem intsL_get {lf : List Nat} {k : Nat} (h : k < lf.length) : (intsL lf)[k]? = some (.int .i64 ((lf.getD k 0 : Nat) : Int)) := by simp [intsL, h]
theorem intsL_one (lf : List Nat) : ∀ u ∈ intsL lf, u.oneCell' = true := by
  intro u hu
  obtain ⟨x, -, rfl⟩ := List.mem_map.1 hu
  rfl
theorem intsL_erase (lf : List Nat) (k : Nat) : intsL (lf.eraseIdx k) = (intsL lf).take k ++ (intsL lf).drop (k + 1) := by
  unfold intsL
  rw [List.eraseIdx_eq_take_drop_succ, List.map_append, List.map_take, List.map_drop]
theorem infoInt19 : ∃ i, Try.prog.info? 3 = some i ∧ i.zero = some (.int .i64 0) ∧ i.size = 1 ∧ i.bytes = 8 := by
  have h : (Try.prog.info? 3).map (fun i => (i.zero, i.size, i.bytes)) = some (some (.int .i64 0), 1, 8) := by kernel_rfl
  cases hi : Try.prog.info? 3 with
  | none => rw [hi] at h; cases h
  | some i =>
    rw [hi] at h
    simp only [Option.map_some, Option.some.injEq, Prod.mk.injEq] at h
    exact ⟨i, rfl, h.1, h.2.1, h.2.2⟩
theorem SpS.kept19 {w0 w w' : World} {v : Value} {vs : List Value} {ls : List (List UInt8)} (h : SpS w0 v vs ls w) (hb : Below w.heap.size w w') : SpS w0 v vs ls w' := ⟨h.len, h.own.kept hb, h.one⟩
/-- A row of another kind stays while a buffer's call writes. -/
theorem own_cp {S : Nat → Prop} {w w' : World} {base sz n : Nat} {e : TypeId} {v : Value} {xs : List Value} (h : w.ownsRow base e sz v n xs) (c : Cp S w w') (h1 : e ≠ 63) (h2 : e ≠ 68) (h3 : e ≠ 22) : w'.ownsRow base e sz v n xs := by
  refine ⟨h.1, h.2.imp id ?_⟩
  rintro ⟨g, cap, cur, rfl, k1, k2, k3⟩
  have hb : BlkAt g e cur.toList w := by unfold BlkAt; rw [k2]
  have := c.oth g _ e hb h1 h2 h3
  unfold BlkAt at this
  exact ⟨g, cap, cur, rfl, k1, this, k3⟩

set_option maxRecDepth 100000 in
set_option maxHeartbeats 32000000 in
theorem back_walk (v : Value) (m : List UInt8) (vo : Value) (ord : List Int) (tw : Bool) (w : World) (hr : Rd w v m) (ho : RdC w vo (ord.map (Value.int .i64))) :
    Calls Try.prog 6 #[v, vo, .bool tw] w fun e w' => e = .returned (.bool true) ∧ Below w.heap.size w w' := by
  obtain ⟨ti, ht1, ht2, ht3, ht4⟩ := infoInt19
  obtain ⟨av, cv, rfl, -, -, -, -⟩ := id hr
  obtain ⟨ao, co, rfl, ho1, ho2, -⟩ := ho.formF
  rw [List.length_map] at ho ho1 ⊢
  unfold maxLen at ho2
  obtain ⟨M, hM⟩ : ∃ M, M = m.length := ⟨_, rfl⟩
  obtain ⟨No, hNo⟩ : ∃ M, M = ord.length := ⟨_, rfl⟩
  rw [← hM] at hr ⊢
  rw [← hNo] at ho ho1 ⊢
  have HR : Hid (Rd w (.slice av M cv) m) := hr
  have HM : Hid (M = m.length) := hM
  have HOr : Hid (RdC w (.slice ao No co) (ord.map (Value.int .i64))) := ho
  have HNo : Hid (No = ord.length) := hNo
  clear hr ho hM hNo
  go_enter Try.func6, Try.ntmps6
  go_wp2_with fail
  refine (awake_any w).mono ?_
  rintro e w1 ⟨rfl, b1⟩
  have HB1 : Hid (Below w.heap.size w w1) := b1
  by_cases h0 : M = 0
  · have hd : ((M : Int) == 0) = true := by simp [h0]
    subst h0
    clear b1
    go_wp2
    go_ret
    exact ⟨rfl, HB1.out⟩
  have hd : ((M : Int) == 0) = false := by simp [h0]
  have hdp : ¬ (M : Int) = 0 := by omega
  by_cases hl : 20000 < M
  · have hd2 : decide ((20000 : Int) < (M : Int)) = true := decide_eq_true (by omega)
    clear b1
    go_wp2
    go_ret
    exact ⟨rfl, HB1.out⟩
  have hd2 : decide ((20000 : Int) < (M : Int)) = false := decide_eq_false (by omega)
  have HR1 : Hid (Rd w1 (.slice av M cv) m) := HR.out.kept b1
  obtain ⟨K, hK⟩ : ∃ K, K = (m.length + 1023) / 1024 := ⟨_, rfl⟩
  obtain ⟨ps, hps⟩ : ∃ ps, ps = spP m K := ⟨_, rfl⟩
  have HKl : Hid (ps.length = K) := by show _ = _; rw [hps, sp_length]
  have HKb : Hid (0 < K ∧ K ≤ 20) := by show _ ∧ _; rw [hK, ← HM.out]; omega
  have HBm : Hid (Bkm [112] 3 ps) := by show Bkm _ _ _; rw [hps, hK]; exact sp_bk [112] m (by rw [← HM.out]; exact h0) (by rw [← HM.out]; omega)
  have HFl : Hid (ps.flatten = m) := by show _ = _; rw [hps, hK]; exact sp_all m
  have hsp : spF m = (ps, 0) := by unfold spF; rw [if_neg (by rw [← HM.out]; exact h0), if_neg (by rw [← HM.out]; omega), hps, hK]
  have hsa := split_any m _ w1 HR1.out
  rw [hsp] at hsa
  simp only at hsa
  have HSa : Hid (Calls Try.prog 9 #[.slice av M cv] w1 fun r w' => ∃ v' vs, r = .returned (.tuple #[v', .int .i64 0]) ∧ SpS w1 v' vs ps w') := by
    show Calls _ _ _ _ _
    rw [HM.out] at hsa ⊢
    exact hsa
  clear b1 h0 hl hps hK hsp hsa
  go_wp2_with fail
  refine Calls.mono HSa.out ?_
  rintro e w2 ⟨vl, vs, rfl, hS⟩
  obtain ⟨gl, cl0, _, _, hvl, hcl0, -, -, -, -⟩ := hS.at (i := 0) (by rw [HKl.out]; exact HKb.out.1)
  rw [HKl.out] at hvl hcl0
  subst hvl
  have HSp : Hid (SpS w1 (.slice (some ⟨gl, 0, none⟩) K cl0) vs ps w2) := hS
  have HB2 : Hid (Below w.heap.size w w2) := HB1.out.trans (hS.own.below.mono HB1.out.size)
  have hK0 : ((K : Int) == 0) = false := beq_eq_false_iff_ne.2 (by have := HKb.out.1; omega)
  have hK0p : ¬ (K : Int) = 0 := by have := HKb.out.1; omega
  have hbl := build_l19c 10 20000 20000 w2
  clear hS HSa
  go_wp2_with fail
  refine (new_any 20000 20000 10 w2).mono ?_
  rintro e w3 ⟨gb, rfl, hgb, hbk, b3⟩
  have HP3 : Hid (PlB w2.heap.size gb 20000 20000 1 (bkB (stB9 ps (List.range K) (fun _ => false))) w3) := by
    have e1 : stB9 ps (List.range K) (fun _ => false) = [] := by rw [← HKl.out]; exact stB9_start ps
    show PlB _ _ _ _ _ _ _
    rw [e1]
    exact ⟨BuP.start (b := bkB []) hbk hgb rfl, (fun e he => by cases he), Nat.zero_le _, ⟨⟨by decide, by decide⟩, ⟨by decide, by decide⟩⟩, rfl, rfl⟩
  have HB23 : Hid (Below w2.heap.size w2 w3) := b3
  clear hgb hbk b3 hbl hK0 hK0p hd hdp hd2
  go_wp2
  go_loopw [11, 12] (fun lv iv wx => ∃ i : Nat, i ≤ K ∧ iv = .int .i64 (i : Int) ∧ Hid (OwnG w3 [⟨3, 1, lv, i, intsL (List.range i)⟩] wx)) (fun _ iv _ => K - (intOf iv).toNat)
  case atStart => exact ⟨0, by omega, rfl, (OwnG.start w3).nil _ 1⟩
  case round =>
    obtain ⟨i, hi, rfl, HO⟩ := hrel
    by_cases hlt : i < K
    · have hdi : decide ((i : Int) < (K : Int)) = true := decide_eq_true (by omega)
      have hiI : (i : Int) < (K : Int) := by omega
      have hi20 : i < 20 := by have := HKb.out.2; omega
      have HSn : Hid (intsL (List.range i) ++ [.int .i64 (i : Int)] = intsL (List.range (i + 1))) := by show _ = _; simp [intsL, List.range_succ]
      go_wp2_with (at_builtin; go_must (refine wpList_append_E rfl _ _ 57 rfl 3 ti _ 1 8 Try.underlying57 ht1 ht2 ht3 ht4 rfl (by decide) _ i (intsL (List.range i)) rfl (HO.out.kept (growB _)) ⟨wr.heap.size, 0, none⟩ 1 1 [.int .i64 (i : Int)] rfl rfl (newsL _ rfl) (by intro u hu; rw [List.mem_singleton.1 hu]; rfl) (by unfold maxLen; omega) (by omega) ?_))
      intro v6 w6 hO6 _
      rw [HSn.out] at hO6
      have HO6 : Hid (OwnG w3 [⟨3, 1, v6, i + 1, intsL (List.range (i + 1))⟩] w6) := hO6
      clear hO6
      go_wp2
      go_roundw
      case rel => exact ⟨i + 1, by omega, by go_num, HO6⟩
      case measure => simp [intOf] <;> omega
    · have hie : i = K := by omega
      have hdi : decide ((i : Int) < (K : Int)) = false := decide_eq_false (by omega)
      have hiI : (K : Int) ≤ (i : Int) := by omega
      have hrw := HO.out.rows _ (List.mem_cons_self ..)
      rw [hie] at hrw
      have hrw2 : wr.ownsRow w3.heap.size 3 1 u11 K (intsL (List.range K)) := hrw
      obtain ⟨al, cl, e2, -, -, -⟩ := (RdC.of_own hrw2).formF
      rw [intsL_length, List.length_range] at e2
      subst e2
      have HRow : Hid (wr.ownsRow 0 3 1 (.slice al K cl) K (intsL (List.range K))) := own_monoG hrw2 (Nat.zero_le _)
      have HPw : Hid (PlB w2.heap.size gb 20000 20000 1 (bkB (stB9 ps (List.range K) (fun _ => false))) wr) := HP3.out.kept HO.out.below
      have HBw : Hid (Below w2.heap.size w2 wr) := HB23.out.trans (HO.out.below.mono HB23.out.size)
      clear hrw hrw2 hie HO HP3 HB23
      go_wp2
      rename World => wOld
      go_loopw [11, 13] (fun lv nv wx => ∃ (n : Nat) (lf : List Nat) (f : Nat → Bool) (al : Option Addr) (cl : Nat), lv = .slice al lf.length cl ∧ nv = .int .i64 (n : Int) ∧ Hid (wx.ownsRow 0 3 1 (.slice al lf.length cl) lf.length (intsL lf)) ∧ Hid (LfS K lf f n) ∧ Hid (PlB w2.heap.size gb 20000 20000 1 (bkB (stB9 ps lf f)) wx) ∧ Hid (Below w2.heap.size w2 wx)) (fun lv _ _ => lenV lv)
      case atStart => exact ⟨0, List.range K, fun _ => false, al, cl, by rw [List.length_range], rfl, (by show World.ownsRow _ _ _ _ _ _ _; rw [List.length_range]; exact HRow.out), LfS.start K, HPw.out, HBw.out⟩
      case round =>
        obtain ⟨n, lf, f, al, cl, rfl, rfl, HRo, HLf, HPb, HBx⟩ := hrel
        clear HRow HPw HBw
        obtain ⟨L, hL⟩ : ∃ L, L = lf.length := ⟨_, rfl⟩
        have HLn : Hid (L = lf.length) := hL
        rw [← hL] at HRo ⊢
        by_cases hpos : 0 < L
        · have hdp : decide ((0 : Int) < (L : Int)) = true := decide_eq_true (by omega)
          obtain ⟨g, cap, e3, hcap, -, -, -, hcell⟩ := own_place HRo.out hpos
          simp only [Value.slice.injEq, true_and] at e3
          obtain ⟨rfl, rfl⟩ := e3
          have hmax : cl ≤ maxLen := by
            obtain ⟨_, _, e4, _, h4, _⟩ := (RdC.of_own HRo.out).formF
            simp only [Value.slice.injEq] at e4
            rw [e4.2.2]
            exact h4
          have HCl : Hid (L ≤ cl ∧ cl ≤ maxLen) := ⟨hcap, hmax⟩
          have HPl : Hid (True ∧ ∀ j, j < (intsL lf).length → wr.cell? ⟨g, j, none⟩ = (intsL lf)[j]?) := ⟨trivial, hcell⟩
          have HRl : Hid (RdE wr (.slice (some ⟨g, 0, none⟩) L cl) 1 L (intsL lf)) := RdE.of_own HRo.out
          have hL20 : L ≤ 20 := by have := HLf.out.len; have := HKb.out.2; omega
          have HLc : Hid (L ≤ cl ∧ cl ≤ maxLen ∧ L ≤ 100) := ⟨hcap, hmax, by omega⟩
          have HN20 : Hid (n ≤ 20) := by have := HLf.out.len; have := HKb.out.2; show _ ≤ _; omega
          have hn20 : n ≤ 20 := HN20.out
          replace HLf : Hid (LfS ps.length lf f n) := by show LfS _ _ _ _; rw [HKl.out]; exact HLf.out
          clear hL hcell hcap hmax
          go_upto_if 64 with fail
          go_cut [14] (fun kv wx => ∃ kk : Nat, kv = .int .i64 (kk : Int) ∧ kk < L ∧ wr = wx)
          case first =>
            by_cases hno : n < No
            focus
              have hdn : decide ((n : Int) < (No : Int)) = true := decide_eq_true (by omega)
              have hnI : (n : Int) < (No : Int) := by omega
              obtain ⟨bo, oo, rfl, co2⟩ : ∃ b o, ao = some ⟨b, o, none⟩ ∧ wr.cell? ⟨b, o + n, none⟩ = some (.int .i64 (ord.getD n 0)) := by
                have h := HOr.out.kept (HB2.out.trans (HBx.out.mono HB2.out.size))
                have hno2 : n < ord.length := by rw [← HNo.out]; exact hno
                obtain ⟨b, o, cap', e, -, -, hc⟩ := h.cellAt (i := n) (by rw [List.length_map]; exact hno2)
                simp only [Value.slice.injEq] at e
                refine ⟨b, o, e.1, ?_⟩
                rw [hc]
                simp [hno2]
              generalize ord.getD n 0 = z at co2
              obtain ⟨X, hX, hand⟩ := and_small z 16777215 (by decide)
              have hand2 : bits .and .i64 z 16777215 = (X : Int) := hand
              obtain ⟨kk, hkd⟩ : ∃ kk, kk = X % L := ⟨_, rfl⟩
              have hkk : kk < L := by rw [hkd]; exact Nat.mod_lt _ hpos
              have hm1 : (X : Int).tmod (L : Int) = (kk : Int) := by rw [hkd, Int.tmod_eq_emod_of_nonneg (by omega)]; omega
              have hm2 : (X : Int) % (L : Int) = (kk : Int) := by rw [hkd]; omega
              have hL0 : ¬ (L : Int) = 0 := by omega
              have hL0b : ((L : Int) == 0) = false := beq_eq_false_iff_ne.2 hL0
              have hkw : IntKind.i64.wrap (kk : Int) = (kk : Int) := IntWalk.i64_in _ (by omega)
              clear hand hX hkd
              go_wp2
              go_meet
              exact ⟨kk, rfl, hkk, rfl⟩
            focus
              have hdn : decide ((n : Int) < (No : Int)) = false := decide_eq_false (by omega)
              have hnI : (No : Int) ≤ (n : Int) := by omega
              go_wp2
              go_meet
              exact ⟨0, rfl, hpos, rfl⟩
          case rest =>
          obtain ⟨kk, rfl, hkk, rfl⟩ := hcut
          have hkI : (kk : Int) < (L : Int) := by omega
          have hkl : kk < lf.length := by rw [← HLn.out]; exact hkk
          obtain ⟨at', hat⟩ : ∃ a, a = lf.getD kk 0 := ⟨_, rfl⟩
          have hstep := HLf.out.step hkl
          have hatK := (HLf.out.at hkl).1
          rw [← hat] at hstep hatK
          have ck : wr.cell? ⟨g, kk, none⟩ = some (.int .i64 (at' : Int)) := by
            rw [HPl.out.2 kk (by rw [intsL_length]; exact hkl), hat]
            exact intsL_get hkl
          have hRl : RdE wr (.slice (some ⟨g, 0, none⟩) L cl) 1 L (intsL lf) := HRl.out
          have hadd := st_add HBm.out HLf.out hkl
          rw [← hat] at hadd
          have HAdF : Hid _ := hadd
          obtain ⟨lf2, hlf2⟩ : ∃ l, l = lf.eraseIdx kk := ⟨_, rfl⟩
          rw [← hlf2] at hstep HAdF
          have HLf2 : Hid (LfS K lf2 (upF f at') (n + 1)) := by show LfS _ _ _ _; rw [← HKl.out]; exact hstep
          have hint : intsL lf2 = (intsL lf).take kk ++ (intsL lf).drop (kk + 1) := by rw [hlf2]; exact intsL_erase lf kk
          have HInt : Hid (intsL lf2 = (intsL lf).take kk ++ (intsL lf).drop (kk + 1)) := hint
          have hl2 : lf2.length + 1 = L := by rw [hlf2, List.length_eraseIdx, if_pos hkl, HLn.out]; omega
          obtain ⟨L2, hL2⟩ : ∃ x, x = lf2.length := ⟨_, rfl⟩
          have HL2 : Hid (L2 = lf2.length ∧ L2 + 1 = L) := ⟨hL2, by omega⟩
          obtain ⟨T, hT⟩ : ∃ T, T = kk + 1 := ⟨_, rfl⟩
          have hwT : IntKind.i64.wrap ((kk : Int) + 1) = (T : Int) := by rw [IntWalk.i64_in _ (by have := HLc.out.2; omega)]; omega
          have HTk : Hid (T = kk + 1 ∧ T ≤ L) := ⟨hT, by omega⟩
          obtain ⟨ab2, hT1, hT2⟩ := exec_tailI (b := g) (off := 0) (L := L) (cb := cl) (m := T) HTk.out.2 HLc.out.1 HLc.out.2.1
          have HT : Hid (∀ {op : Oper} {a : Act} {W : World} (x h : Operand), op.op = .slice 57 x (some h) none none → a.eval x = .slice (some ⟨g, 0, none⟩) L cl → a.eval h = .int .i64 (T : Int) → (execOp a.eval op).run Try.prog W = .ok (.value (.slice ab2 (L - T) (cl - T))) W) := hT1
          have HRt : Hid (∀ W, Below wr.heap.size wr W → RdE W (.slice ab2 (L - T) (cl - T)) 1 (L - T) ((intsL lf).drop (kk + 1))) := by
            show ∀ W, _
            intro W hW
            rw [← hT]
            exact hT2 W _ (hRl.kept hW)
          have HRh : Hid (RdE wr (.slice (some ⟨g, 0, none⟩) kk cl) 1 kk ((intsL lf).take kk)) := by
            have := hRl.take (k := kk) (by omega)
            rw [Nat.mul_one] at this
            exact this
          have HKk : Hid (kk ≤ L ∧ L ≤ 100) := ⟨by omega, HLc.out.2.2⟩
          have HAt : Hid (at' < K) := by show _ < _; rw [← HKl.out]; exact hatK
          have HO1 : Hid (∀ u ∈ (intsL lf).take kk, u.oneCell' = true) := fun u hu => intsL_one lf u (List.mem_of_mem_take hu)
          have HO2 : Hid (∀ u ∈ (intsL lf).drop (kk + 1), u.oneCell' = true) := fun u hu => intsL_one lf u (List.mem_of_mem_drop hu)
          have HNe : Hid (lf ≠ []) := by rintro rfl; simp at hkl
          obtain ⟨gl', cap', ap, cp, ev, -, -, dp2, -, hop⟩ := HSp.out.at (i := at') (by rw [HKl.out]; exact HAt.out)
          simp only [Value.slice.injEq, Option.some.injEq, Addr.mk.injEq, and_true, true_and] at ev
          obtain ⟨rfl, -, rfl⟩ := ev
          have HRp2 : Hid (Rd w2 (.slice ap (ps.getD at' []).length cp) (ps.getD at' [])) := Rd.of_row hop
          have HOp : Hid (OutK (fun k => w2.heap.size ≤ k ∧ ¬ (fun _ => False) k) (.slice ap (ps.getD at' []).length cp) (ps.getD at' [])) :=
            OutK.own hop fun g hg hk => by have := (hop.lt g hg).2; have := hk.1; omega
          obtain ⟨P, hP⟩ : ∃ P, P = (ps.getD at' []).length := ⟨_, rfl⟩
          have HPp : Hid (P = (ps.getD at' []).length) := hP
          rw [← hP] at dp2
          have HDw : Hid (∀ W, Below w2.heap.size w2 W → W.cell? ⟨gl, at', none⟩ = some (.slice ap P cp)) := fun W hW => cellF dp2 hW
          have HDp : Hid (∀ W, Below wr.heap.size wr W → W.cell? ⟨gl, at', none⟩ = some (.slice ap P cp)) := fun W hW => HDw.out W (stepB HBx.out hW)
          have hatI : (at' : Int) < (K : Int) := by have := HAt.out; omega
          clear hkl hat hstep hatK hRl hadd hlf2 hint hl2 hL2 hT hT1 hT2 HLf HRl HPl HLc HLn hP dp2 hop
          go_wp2_with (first
            | refine wpList_val19 rfl (exec_headI (y := ⟨g, 0, none⟩) (L := L) (cb := cl) (m := kk) _ _ rfl rfl rfl HKk.out.1 HCl.out.1 HCl.out.2) ?_
            | refine wpList_val19 rfl (HT.out _ _ rfl rfl rfl) ?_
            | (at_builtin; refine wpList_append_R rfl _ _ 57 rfl 3 ti _ 1 8 Try.underlying57 ht1 ht2 ht3 ht4 rfl (by decide) _ (0 + kk) ([] ++ (intsL lf).take kk) rfl HX1.out _ (L - T) ((intsL lf).drop (kk + 1)) rfl (HRt.out _ HX1.out.below) HO2.out (by unfold maxLen; have := HKk.out; omega) (by have := HKk.out; omega) ?_; intro v2 wx2 hO2 _; have dp := HDp.out wx2 hO2.below)
            | (at_builtin; refine wpList_append_R rfl _ _ 57 rfl 3 ti _ 1 8 Try.underlying57 ht1 ht2 ht3 ht4 rfl (by decide) _ 0 [] rfl ((OwnG.start wr).nil _ 1) _ kk ((intsL lf).take kk) rfl HRh.out HO1.out (by unfold maxLen; have := HKk.out; omega) (by have := HKk.out; omega) ?_; intro v1 wx1 hO1 _; have HX1 : Hid (OwnG wr [⟨3, 1, v1, 0 + kk, [] ++ (intsL lf).take kk⟩] wx1) := hO1; clear hO1))
          have hrw := hO2.rows _ (List.mem_cons_self ..)
          have hrw2 : wx2.ownsRow 0 3 1 v2 L2 (intsL lf2) := by
            have h : wx2.ownsRow wr.heap.size 3 1 v2 (0 + kk + (L - T)) ([] ++ (intsL lf).take kk ++ (intsL lf).drop (kk + 1)) := hrw
            rw [show 0 + kk + (L - T) = L2 by have := HTk.out; have := HL2.out; omega, List.nil_append, ← HInt.out] at h
            exact own_monoG h (Nat.zero_le _)
          obtain ⟨a2, c2, e2, -, -, -⟩ := (RdC.of_own hrw2).formF
          rw [intsL_length, ← HL2.out.1] at e2
          subst e2
          have HRow2 : Hid (wx2.ownsRow 0 3 1 (.slice a2 L2 c2) L2 (intsL lf2)) := hrw2
          have hbx : Below wr.heap.size wr wx2 := hO2.below
          have HPx : Hid (PlB w2.heap.size gb 20000 20000 1 (bkB (stB9 ps lf f)) wx2) := HPb.out.kept hbx
          have HB2x : Hid (Below w2.heap.size w2 wx2) := stepB HBx.out hbx
          have HRp : Hid (Rd wx2 (.slice ap (ps.getD at' []).length cp) (ps.getD at' [])) := (HRp2.out.kept HB2x.out)
          have HA1 := HPx.out.add HB2x.out.size (Below.refl _ _) (by decide) (fun _ => False) (fun _ h => h.elim) [112] (by decide) 3 (at' : Int) (ps.length : Int) (ps.getD at' []) (.slice ap (ps.getD at' []).length cp) 7 (by decide) HRp.out (by
            refine HOp.out.mono fun k hk => hk)
          rw [HAdF.out, HKl.out] at HA1
          simp only at HA1
          rw [← HPp.out] at HA1
          have HAdd : Hid _ := HA1
          clear hrw hrw2 hO2 hbx HA1 HX1 HT HRt HRh HO1 HO2 HPb HBx dp ck hwT hkI hkk
          refine Calls.mono HAdd.out ?_
          rintro e w7 ⟨v7, rfl, hR7, hP7, k7, -⟩
          have HP7 : Hid (PlB w2.heap.size gb 20000 20000 1 (bkB (stB9 ps lf2 (upF f at'))) w7) := ⟨hP7.bu, hP7.en, stB9_len _ _ _, hP7.lim, hP7.pm, hP7.am⟩
          have HRow7 : Hid (w7.ownsRow 0 3 1 (.slice a2 L2 c2) L2 (intsL lf2)) := own_cp HRow2.out k7 (by decide) (by decide) (by decide)
          have HB7 : Hid (Below w2.heap.size w2 w7) := Chg.below HB2x.out k7.chg HB2x.out.size fun k _ hk => hk.1
          have hn20 : n ≤ 20 := HN20.out
          clear hP7 k7 HAdd HPx HRow2 HB2x
          by_cases he : lf2 = []
          · have hL20 : L2 = 0 := by rw [HL2.out.1, he]; rfl
            rw [if_pos he, HFl.out] at hR7
            obtain ⟨a7, d7, e7, -⟩ := id hR7
            rw [← HM.out] at e7
            subst e7
            have hm7 := HR.out.kept (HB2.out.trans (HB7.out.mono HB2.out.size))
            have hcv1 := conv_any hR7
            have hcv2 := conv_any hm7
            have HRz : Hid (w7.ownsRow 0 3 1 (.slice a2 lf2.length c2) lf2.length (intsL lf2)) := by have := HRow7.out; rw [HL2.out.1] at this; exact this
            subst hL20
            clear hR7 hm7 HRow7
            cases tw with
            | true =>
              go_wp2
              go_roundw
              case rel => exact ⟨n + 1, lf2, upF f at', a2, c2, by rw [he]; rfl, by go_num, HRz, HLf2, HP7, HB7⟩
              case measure => have := HL2.out; simp only [lenV]; omega
            | false =>
              go_wp2
              go_roundw
              case rel => exact ⟨n + 1, lf2, upF f at', a2, c2, by rw [he]; rfl, by go_num, HRz, HLf2, HP7, HB7⟩
              case measure => have := HL2.out; simp only [lenV]; omega
          · have hL20 : 0 < L2 := by rw [HL2.out.1]; exact List.length_pos_iff.2 he
            have hdq : decide ((0 : Int) < (L2 : Int)) = true := decide_eq_true (by omega)
            have hdqI : (0 : Int) < (L2 : Int) := by omega
            have hz1 : ((L2 : Int) == 0) = false := beq_eq_false_iff_ne.2 (by omega)
            have hz2 : ¬ (L2 : Int) = 0 := by omega
            rw [if_neg he] at hR7
            obtain ⟨a7, d7, e7, -⟩ := id hR7
            have e7' : v7 = .slice a7 0 d7 := e7
            subst e7'
            clear e7 hR7
            cases tw with
            | false =>
              go_wp2
              go_roundw
              case rel => exact ⟨n + 1, lf2, upF f at', a2, c2, by rw [HL2.out.1], by go_num, (by have := HRow7.out; rw [HL2.out.1] at this; exact this : World.ownsRow _ _ _ _ _ _ _), HLf2, HP7, HB7⟩
              case measure => have := HL2.out; simp only [lenV]; omega
            | true =>
              have hag := st_again (lf := lf2) (f := f) (i := at') HBm.out he (by rw [HKl.out]; exact HAt.out)
              have HA2 := HP7.out.add HB7.out.size (Below.refl _ _) (by decide) (fun _ => False) (fun _ h => h.elim) [112] (by decide) 3 (at' : Int) (ps.length : Int) (ps.getD at' []) (.slice ap (ps.getD at' []).length cp) 8 (by decide) (HRp2.out.kept HB7.out) HOp.out
              rw [hag, HKl.out] at HA2
              simp only at HA2
              rw [← HPp.out] at HA2
              have HAdd2 : Hid _ := HA2
              have dp7 := HDw.out w7 HB7.out
              clear hag HA2
              go_wp2_with fail
              refine Calls.mono HAdd2.out ?_
              rintro e w8 ⟨v8, rfl, hR8, hP8, k8, -⟩
              have HP8 : Hid (PlB w2.heap.size gb 20000 20000 1 (bkB (stB9 ps lf2 (upF f at'))) w8) := ⟨hP8.bu, hP8.en, stB9_len _ _ _, hP8.lim, hP8.pm, hP8.am⟩
              have HRow8 : Hid (w8.ownsRow 0 3 1 (.slice a2 lf2.length c2) lf2.length (intsL lf2)) := by
                have := own_cp HRow7.out k8 (by decide) (by decide) (by decide)
                rw [HL2.out.1] at this
                exact this
              have HB8 : Hid (Below w2.heap.size w2 w8) := Chg.below HB7.out k8.chg HB7.out.size fun k _ hk => hk.1
              obtain ⟨a8, d8, e8, -⟩ := id hR8
              have e8' : v8 = .slice a8 0 d8 := e8
              subst e8'
              clear e8 hR8 hP8 k8 HAdd2 HP7 HRow7 HB7 dp7
              go_wp2
              go_roundw
              case rel => exact ⟨n + 1, lf2, upF f at', a2, c2, by rw [HL2.out.1], by go_num, HRow8, HLf2, HP8, HB8⟩
              case measure => have := HL2.out; simp only [lenV]; omega
        · have hL0 : L = 0 := by omega
          have he : lf = [] := List.eq_nil_of_length_eq_zero (by rw [← HLn.out]; exact hL0)
          have hHC : Calls Try.prog 21 #[pV gb] wr fun e w' => e = .returned (.int .i64 0) ∧ w' = wr := by
            have := bcount_any _ gb _ wr HPb.out.bu
            rw [he] at this
            exact this
          have HHC : Hid (Calls Try.prog 21 #[pV gb] wr fun e w' => e = .returned (.int .i64 0) ∧ w' = wr) := hHC
          have HBf : Hid (Below w.heap.size w wr) := HB2.out.trans (HBx.out.mono HB2.out.size)
          subst hL0
          clear hHC he hL hpos HRo HLf HPb HBx
          go_wp2_with fail
          refine Calls.mono HHC.out ?_
          rintro e w9 ⟨rfl, rfl⟩
          go_wp2
          go_ret
          exact ⟨rfl, HBf.out⟩
end Go.Proofs.Ytkljklfejaojaaa
