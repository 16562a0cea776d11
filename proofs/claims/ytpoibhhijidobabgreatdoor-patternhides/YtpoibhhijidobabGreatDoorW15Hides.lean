/- What the law PatternHides answers at every input: the walk. -/
import Derived.Test.YtpoibhhijidobabGreatDoorAw15
import Derived.Test.YtpoibhhijidobabGreatDoorL15c
import Derived.Laws.OwnMore
namespace Go.Proofs.YtpoibhhijidobabGreatDoor
open Go.ChangeShapes Go.WideShapes Go.ChangeAt Go.RowKit
set_option linter.unusedSimpArgs false
set_option linter.unusedVariables false

/-- Nothing is appended. -/
theorem run_append_noneC {P : Program} {w : World} (base : Nat) (t ty e : TypeId) (i : TypeInfo) (size cap : Nat) (ht : P.underlying t = some (.slice e)) (hi : P.info? e = some i)
    (v : Value) (n : Nat) (xs : List Value) (hown : w.ownsRow base e size v n xs) : (Builtin.append_ #[t, t] ty #[v, .slice none 0 cap]).run P w = .ok v w := by
  rcases hown.2 with ⟨rfl, rfl⟩ | ⟨g, cap, cur, rfl, _, _, hnc, _⟩
  · simp [Builtin.append_, run_underlying ht, sizeOf, typeInfo, hi, Builtin.lenOf, Builtin.firstCells]
  · simp [Builtin.append_, run_underlying ht, sizeOf, typeInfo, hi, Builtin.lenOf, Builtin.firstCells, hnc, storeCells]
theorem kyC_one (l : List Say) : ∀ u ∈ kyC l, u.oneCell' = true := by
  intro u hu
  unfold kyC at hu
  obtain ⟨s, -, hs⟩ := List.mem_flatMap.1 hu
  simp only [List.mem_cons, List.not_mem_nil, or_false] at hs
  rcases hs with rfl | rfl <;> rfl
/-- Keys, some or none, are appended to the first row. -/
theorem wpList_append_K {P : Program} {w0 wr : World} {L : List Rw} {ops : Array Oper} {rest : List Oper} {o : Oper} {a : Act} {Q : Exit → Act → World → Prop} (hg : o.guard = none) (s x : Operand) (t : TypeId)
    (ho : o.op = .call { callee := .builtin .append, args := #[s, x], argTypes := #[t, t] }) (e : TypeId) (i : TypeInfo) (z : Value) (ht : P.underlying t = some (.slice e)) (hi : P.info? e = some i) (hz : i.zero = some z)
    (hsize : i.size = 2) (hby : i.bytes = 16) (hzs : z.cells.size = 2) (v : Value) (n : Nat) (xs : List Value) (hs : a.eval s = v) (hO : OwnG w0 (⟨e, 2, v, n, xs⟩ :: L) wr)
    (vx : Value) (ks : List Say) (hx : a.eval x = vx) (hR : KyR wr vx ks) (hk : n + ks.length ≤ 1000)
    (h : ∀ v' w', OwnG w0 (⟨e, 2, v', n + ks.length, xs ++ kyC ks⟩ :: L) w' → Chg (fun b => some b = v.ownBlock) wr w' → wpList P ops Q rest (a.put o.dst v') w') : wpList P ops Q (o :: rest) a wr := by
  obtain ⟨ax, cap, rfl, h2, h3, h5⟩ := hR
  cases ax with
  | none =>
    have hl2 : ks = [] := by
      rcases h5 with h | ⟨_, _, h, _⟩
      · exact h
      · cases h
    subst hl2
    refine wpList_plain hg fun K hK => ?_
    have hrun := run_append_noneC (P := P) (w := wr) w0.heap.size t o.type e i 2 cap ht hi v n _ (hO.rows _ (List.mem_cons_self ..))
    have hx' : a.eval x = .slice none 0 cap := hx
    unfold Oper.wp
    simp [execOp, ho, resolve, invoke, builtin, hs, hx', hrun, Result.andThen]
    exact hK _ _ (h v wr (by simpa [kyC] using hO) (Chg.refl _ _))
  | some ad =>
    refine wpList_append_E hg s x t ho e i z 2 16 ht hi hz hsize hby hzs (by decide) v n xs hs hO ad ks.length cap (kyC ks) hx (kyC_len ks) (fun j u hj => ?_) (kyC_one ks) (by unfold maxLen; omega) (by omega) h
    have hjl : j < ks.length * 2 := by
      rw [← kyC_len]
      rcases Nat.lt_or_ge j (kyC ks).length with h | h
      · exact h
      · simp [List.getElem?_eq_none h] at hj
    rcases h5 with rfl | ⟨b, off, e1, hc⟩
    · simp at hjl
    · simp only [Option.some.injEq] at e1
      subst e1
      have hplain : (⟨b, off, none⟩ : Addr).add j = ⟨b, off + j, none⟩ := by unfold Addr.add; split <;> simp_all
      rw [hplain]
      have hq := hc (j / 2) (by omega)
      have hw := kyC_at ks (j / 2) (by omega)
      rcases Nat.mod_two_eq_zero_or_one j with hm | hm
      · have ej : j = 2 * (j / 2) := by omega
        rw [ej, hw.1] at hj
        rw [ej, hq.1]
        simpa using hj
      · have ej : j = 2 * (j / 2) + 1 := by omega
        rw [ej, hw.2] at hj
        rw [ej, hq.2]
        simpa using hj
set_option maxRecDepth 100000 in
set_option maxHeartbeats 8000000 in
theorem hides_walk (p : Ptn) (vm : Value) (A : Array Value) (hA : A = (paC p vm).toArray) (ks : List Say) (vk : Value) (ms : List Say) (vo : Value) (curve kem : Bool) (hnm : p.name.length ≤ maxLen) (w : World) (h : MsR w vm p) (hk : KyR w vk ks) (hm : KyR w vo ms) (hT : TkT w) :
    Calls Tryz.prog 4 #[.agg A, vk, vo, .bool curve, .bool kem] w fun e w' => e = .returned (.bool true) ∧ Below w.heap.size w w' := by
  obtain ⟨ti, hti, hz0, hz1, hz2⟩ := info_parts infoKey
  obtain ⟨ak, ck, rfl, hk1, hk2⟩ := ky_len15 hk
  obtain ⟨ao, co, rfl, ho1, ho2⟩ := ky_len15 hm
  unfold maxLen at hk2 ho2
  have HK : Hid (KyR w (.slice ak ks.length ck) ks) := hk
  have HMo : Hid (KyR w (.slice ao ms.length co) ms) := hm
  have HT : Hid (TkT w) := hT
  have HM : Hid (MsR w vm p) := h
  have HL : Hid (p.name.length ≤ maxLen) := hnm
  clear hT h hnm hk hm
  go_enter Tryz.func4, Tryz.ntmps4
  go_wp2_with (refine wpList_box_blk rfl 25 _ rfl (paC p vm) (by rw [← hA]; rfl) ?_)
  intro w1 r1 b1 s1
  clear s1 hA
  go_wp2_with fail
  refine (awake_any _ (HT.out.kept b1)).mono ?_
  rintro e w2 ⟨rfl, b2⟩
  replace r1 := r1.kept b2
  have hbw := stepB b1 b2
  clear b1 b2
  go_wp2_with (refine wpList_load_part rfl 25 _ rfl rfl [] (paC p vm) [] r1 (whole15 _) rfl Tryz.underlying25 rfl (paInfo p _) ?_)
  refine (few_any p vm _ rfl HL.out _ (HM.out.kept hbw)).mono ?_
  rintro e w3 ⟨rfl, b3⟩
  replace r1 := r1.kept b3
  replace hbw := stepB hbw b3
  clear b3
  obtain ⟨f, hf⟩ : ∃ f : Bool, f = fwB p := ⟨_, rfl⟩
  rw [← hf]
  cases f with
  | false =>
    clear hf
    go_wp2
    go_ret
    exact ⟨rfl, hbw⟩
  | true =>
    clear hf
    by_cases hl : 50 < ks.length
    · have d1 : decide ((50 : Int) < (ks.length : Int)) = true := decide_eq_true (by omega)
      have d2 : (50 : Int) < (ks.length : Int) := by omega
      go_wp2
      go_ret
      exact ⟨rfl, hbw⟩
    have d1 : decide ((50 : Int) < (ks.length : Int)) = false := decide_eq_false (by omega)
    have d2 : (ks.length : Int) ≤ (50 : Int) := by omega
    by_cases hl2 : 50 < ms.length
    · have d3 : decide ((50 : Int) < (ms.length : Int)) = true := decide_eq_true (by omega)
      have d4 : (50 : Int) < (ms.length : Int) := by omega
      go_wp2
      go_ret
      exact ⟨rfl, hbw⟩
    have d3 : decide ((50 : Int) < (ms.length : Int)) = false := decide_eq_false (by omega)
    have d4 : (ms.length : Int) ≤ (50 : Int) := by omega
    have HN : Hid (ks.length ≤ 50 ∧ ms.length ≤ 50) := ⟨by omega, by omega⟩
    clear hl hl2
    go_wp2_with (refine wpList_load_part rfl 25 _ rfl rfl [] (paC p vm) [] r1 (whole15 _) rfl Tryz.underlying25 rfl (paInfo p _) ?_)
    refine (hybrid_any p vm _ rfl HL.out _ (HM.out.kept hbw)).mono ?_
    rintro e wh ⟨rfl, bh⟩
    replace r1 := r1.kept bh
    replace hbw := stepB hbw bh
    clear bh d1 d2 d3 d4
    obtain ⟨H, hH⟩ : ∃ b : Bool, b = hyB p := ⟨_, rfl⟩
    rw [← hH]
    cases H with
    | false =>
      clear hH
      have HBB : Hid (Below w.heap.size w wh) := hbw
      obtain ⟨wB, hwB⟩ : ∃ wB : World, wB = wh := ⟨_, rfl⟩
      subst hwB
      have hO0 : OwnG wB [⟨76, 2, .slice none 0 0, 0, []⟩] wB := (OwnG.start wB).nil 76 2
      go_wp2_with (at_builtin; go_must (refine wpList_append_K rfl _ _ 39 rfl 76 ti _ Tryz.underlying39 hti hz0 hz1 hz2 rfl _ 0 [] rfl hO0 _ ks rfl (HK.out.kept HBB.out) (by have := HN.out.1; omega) ?_))
      intro v4 w4 hO4 hC4
      replace hO4 : OwnG wB [⟨76, 2, v4, ks.length, kyC ks⟩] w4 := by simpa using hO4
      clear hO0 hC4
      go_wp2_with (at_builtin; go_must (refine wpList_append_K rfl _ _ 39 rfl 76 ti _ Tryz.underlying39 hti hz0 hz1 hz2 rfl _ ks.length (kyC ks) rfl hO4 _ ms rfl ((HMo.out.kept HBB.out).kept hO4.below) (by have := HN.out; omega) ?_))
      intro v5 w5 hO5 hC5
      have HAll : Hid (KyR w5 v5 (ks ++ ms)) := by
        have e1 : kyC ks ++ kyC ms = kyC (ks ++ ms) := by simp [kyC]
        rw [e1] at hO5
        exact hO5.ky (by simp)
      replace hbw := stepB HBB.out hO5.below
      replace r1 := r1.kept hO5.below
      clear hO4 hC5 hO5
      go_wp2_with (refine wpList_load_part rfl 25 _ rfl rfl [] (paC p vm) [] r1 (whole15 _) rfl Tryz.underlying25 rfl (paInfo p _) ?_)
      refine (derivable_any p vm curve kem ks _ _ rfl HL.out _ (HM.out.kept hbw) (HK.out.kept hbw)).mono ?_
      rintro e w6 ⟨rfl, b6⟩
      replace r1 := r1.kept b6
      replace HAll : Hid (KyR w6 v5 (ks ++ ms)) := HAll.out.kept b6
      replace hbw := stepB hbw b6
      clear b6
      obtain ⟨D, hD⟩ : ∃ d : Bool, d = drB p curve kem ks := ⟨_, rfl⟩
      rw [← hD]
      cases D with
      | false =>
        clear hD
        go_wp2
        go_ret
        exact ⟨rfl, hbw⟩
      | true =>
        have HD : Hid (drB p true kem (ks ++ ms) = true ∧ drB p curve true (ks ++ ms) = true ∧ drB p curve kem (ks ++ ms) = true) :=
          ⟨drB_more hD.symm (fun _ => rfl) (fun h => h) (fun q hq => List.mem_append_left _ hq), drB_more hD.symm (fun h => h) (fun _ => rfl) (fun q hq => List.mem_append_left _ hq), drB_more hD.symm (fun h => h) (fun h => h) (fun q hq => List.mem_append_left _ hq)⟩
        clear hD
        go_wp2_with (refine wpList_loadG 25 _ rfl rfl (paC p vm) r1 Tryz.underlying25 rfl (paInfo p _) (by go_simp; done) ?_)
        refine (derivable_any p vm true kem (ks ++ ms) _ _ rfl HL.out _ (HM.out.kept hbw) (HAll.out)).mono ?_
        rintro e w7 ⟨rfl, b7⟩
        rw [HD.out.1]
        replace r1 := r1.kept b7
        replace hbw := stepB hbw b7
        replace HAll : Hid (KyR w7 v5 (ks ++ ms)) := HAll.out.kept b7
        clear b7
        go_wp2_with (refine wpList_loadG 25 _ rfl rfl (paC p vm) r1 Tryz.underlying25 rfl (paInfo p _) (by go_simp; done) ?_)
        refine (derivable_any p vm curve true (ks ++ ms) _ _ rfl HL.out _ (HM.out.kept hbw) (HAll.out)).mono ?_
        rintro e w8 ⟨rfl, b8⟩
        rw [HD.out.2.1]
        replace r1 := r1.kept b8
        replace hbw := stepB hbw b8
        replace HAll : Hid (KyR w8 v5 (ks ++ ms)) := HAll.out.kept b8
        clear b8
        go_wp2_with (refine wpList_loadG 25 _ rfl rfl (paC p vm) r1 Tryz.underlying25 rfl (paInfo p _) (by go_simp; done) ?_)
        refine (derivable_any p vm curve kem (ks ++ ms) _ _ rfl HL.out _ (HM.out.kept hbw) (HAll.out)).mono ?_
        rintro e w9 ⟨rfl, b9⟩
        rw [HD.out.2.2]
        replace r1 := r1.kept b9
        replace hbw := stepB hbw b9
        clear b9 HAll
        go_wp2
        go_ret
        exact ⟨rfl, hbw⟩
    | true =>
      have HH : Hid _ := drB_hides hH.symm
      clear hH
      go_wp2_with (refine wpList_loadG 25 _ rfl rfl (paC p vm) r1 Tryz.underlying25 rfl (paInfo p _) (by go_simp; done) ?_)
      refine (derivable_any p vm true false [] _ _ rfl HL.out _ (HM.out.kept hbw) (KyR.nil _)).mono ?_
      rintro e wx1 ⟨rfl, bx1⟩
      rw [HH.out.1]
      replace r1 := r1.kept bx1
      replace hbw := stepB hbw bx1
      clear bx1
      go_wp2_with (refine wpList_loadG 25 _ rfl rfl (paC p vm) r1 Tryz.underlying25 rfl (paInfo p _) (by go_simp; done) ?_)
      refine (derivable_any p vm false true [] _ _ rfl HL.out _ (HM.out.kept hbw) (KyR.nil _)).mono ?_
      rintro e wx2 ⟨rfl, bx2⟩
      rw [HH.out.2.1]
      replace r1 := r1.kept bx2
      replace hbw := stepB hbw bx2
      clear bx2
      go_wp2_with (refine wpList_loadG 25 _ rfl rfl (paC p vm) r1 Tryz.underlying25 rfl (paInfo p _) (by go_simp; done) ?_)
      refine (derivable_any p vm false false [] _ _ rfl HL.out _ (HM.out.kept hbw) (KyR.nil _)).mono ?_
      rintro e wx3 ⟨rfl, bx3⟩
      rw [HH.out.2.2]
      replace r1 := r1.kept bx3
      replace hbw := stepB hbw bx3
      clear bx3
      have HBB : Hid (Below w.heap.size w wx3) := hbw
      obtain ⟨wB, hwB⟩ : ∃ wB : World, wB = wx3 := ⟨_, rfl⟩
      subst hwB
      have hO0 : OwnG wB [⟨76, 2, .slice none 0 0, 0, []⟩] wB := (OwnG.start wB).nil 76 2
      go_wp2_with (at_builtin; go_must (refine wpList_append_K rfl _ _ 39 rfl 76 ti _ Tryz.underlying39 hti hz0 hz1 hz2 rfl _ 0 [] rfl hO0 _ ks rfl (HK.out.kept HBB.out) (by have := HN.out.1; omega) ?_))
      intro v4 w4 hO4 hC4
      replace hO4 : OwnG wB [⟨76, 2, v4, ks.length, kyC ks⟩] w4 := by simpa using hO4
      clear hO0 hC4
      go_wp2_with (at_builtin; go_must (refine wpList_append_K rfl _ _ 39 rfl 76 ti _ Tryz.underlying39 hti hz0 hz1 hz2 rfl _ ks.length (kyC ks) rfl hO4 _ ms rfl ((HMo.out.kept HBB.out).kept hO4.below) (by have := HN.out; omega) ?_))
      intro v5 w5 hO5 hC5
      have HAll : Hid (KyR w5 v5 (ks ++ ms)) := by
        have e1 : kyC ks ++ kyC ms = kyC (ks ++ ms) := by simp [kyC]
        rw [e1] at hO5
        exact hO5.ky (by simp)
      replace hbw := stepB HBB.out hO5.below
      replace r1 := r1.kept hO5.below
      clear hO4 hC5 hO5
      go_wp2_with (refine wpList_load_part rfl 25 _ rfl rfl [] (paC p vm) [] r1 (whole15 _) rfl Tryz.underlying25 rfl (paInfo p _) ?_)
      refine (derivable_any p vm curve kem ks _ _ rfl HL.out _ (HM.out.kept hbw) (HK.out.kept hbw)).mono ?_
      rintro e w6 ⟨rfl, b6⟩
      replace r1 := r1.kept b6
      replace HAll : Hid (KyR w6 v5 (ks ++ ms)) := HAll.out.kept b6
      replace hbw := stepB hbw b6
      clear b6
      obtain ⟨D, hD⟩ : ∃ d : Bool, d = drB p curve kem ks := ⟨_, rfl⟩
      rw [← hD]
      cases D with
      | false =>
        clear hD
        go_wp2
        go_ret
        exact ⟨rfl, hbw⟩
      | true =>
        have HD : Hid (drB p true kem (ks ++ ms) = true ∧ drB p curve true (ks ++ ms) = true ∧ drB p curve kem (ks ++ ms) = true) :=
          ⟨drB_more hD.symm (fun _ => rfl) (fun h => h) (fun q hq => List.mem_append_left _ hq), drB_more hD.symm (fun h => h) (fun _ => rfl) (fun q hq => List.mem_append_left _ hq), drB_more hD.symm (fun h => h) (fun h => h) (fun q hq => List.mem_append_left _ hq)⟩
        clear hD
        go_wp2_with (refine wpList_loadG 25 _ rfl rfl (paC p vm) r1 Tryz.underlying25 rfl (paInfo p _) (by go_simp; done) ?_)
        refine (derivable_any p vm true kem (ks ++ ms) _ _ rfl HL.out _ (HM.out.kept hbw) (HAll.out)).mono ?_
        rintro e w7 ⟨rfl, b7⟩
        rw [HD.out.1]
        replace r1 := r1.kept b7
        replace hbw := stepB hbw b7
        replace HAll : Hid (KyR w7 v5 (ks ++ ms)) := HAll.out.kept b7
        clear b7
        go_wp2_with (refine wpList_loadG 25 _ rfl rfl (paC p vm) r1 Tryz.underlying25 rfl (paInfo p _) (by go_simp; done) ?_)
        refine (derivable_any p vm curve true (ks ++ ms) _ _ rfl HL.out _ (HM.out.kept hbw) (HAll.out)).mono ?_
        rintro e w8 ⟨rfl, b8⟩
        rw [HD.out.2.1]
        replace r1 := r1.kept b8
        replace hbw := stepB hbw b8
        replace HAll : Hid (KyR w8 v5 (ks ++ ms)) := HAll.out.kept b8
        clear b8
        go_wp2_with (refine wpList_loadG 25 _ rfl rfl (paC p vm) r1 Tryz.underlying25 rfl (paInfo p _) (by go_simp; done) ?_)
        refine (derivable_any p vm curve kem (ks ++ ms) _ _ rfl HL.out _ (HM.out.kept hbw) (HAll.out)).mono ?_
        rintro e w9 ⟨rfl, b9⟩
        rw [HD.out.2.2]
        replace r1 := r1.kept b9
        replace hbw := stepB hbw b9
        clear b9 HAll
        go_wp2
        go_ret
        exact ⟨rfl, hbw⟩
end Go.Proofs.YtpoibhhijidobabGreatDoor
