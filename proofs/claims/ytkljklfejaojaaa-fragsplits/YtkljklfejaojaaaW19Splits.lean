/- Any message's pieces: the law's walk. -/
import Derived.Test.YtkljklfejaojaaaAw19
import Derived.Test.YtkljklfejaojaaaRef19h
namespace Go.Proofs.Ytkljklfejaojaaa
open Go.ChangeShapes Go.WideShapes Go.ChangeAt Go.RowKit
set_option linter.unusedSimpArgs false
set_option linter.unusedVariables false

theorem perm_at19 {α : Type _} : ∀ {l : List α} {i : Nat} (h : i < l.length), (l[i] :: l.eraseIdx i).Perm l
  | [], i, h => by simp at h
  | x :: l, 0, h => List.Perm.refl _
  | x :: l, i + 1, h => by
    have h' : i < l.length := by simpa using h
    exact (List.Perm.swap x l[i] (l.eraseIdx i)).trans (List.Perm.cons x (perm_at19 h'))
theorem pcR_set : ∀ (vs : List Value) (ls : List (List UInt8)) (i : Nat) (l : List UInt8) (hi : i < vs.length), pcR vs (ls.set i l) = (pcR vs ls).set i (Rw.by 5 vs[i] l)
  | [], _, i, _, hi => by simp at hi
  | v :: vs, [], i, l, hi => by simp [pcR]
  | v :: vs, x :: ls, 0, l, hi => rfl
  | v :: vs, x :: ls, i + 1, l, hi => by
    have hi' : i < vs.length := by simpa using hi
    have := pcR_set vs ls i l hi'
    show Rw.by 5 v x :: pcR vs (ls.set i l) = Rw.by 5 v x :: (pcR vs ls).set i _
    rw [this]
    rfl
theorem pcR_len (vs : List Value) (ls : List (List UInt8)) : (pcR vs ls).length = min vs.length ls.length := by simp [pcR]
theorem pcR_get (vs : List Value) (ls : List (List UInt8)) {i : Nat} (hv : i < vs.length) (hl : i < ls.length) : (pcR vs ls)[i]? = some (Rw.by 5 vs[i] ls[i]) := by
  unfold pcR
  rw [List.getElem?_zipWith]
  simp [hv, hl]
/-- A byte of a piece is written. -/
theorem SpS.store {w0 w : World} {v : Value} {vs : List Value} {ls : List (List UInt8)} (h : SpS w0 v vs ls w) {i : Nat} (hi : i < ls.length) (h0 : 0 < (ls.getD i []).length) :
    ∃ g c, vs[i]? = some (.slice (some ⟨g, 0, none⟩) (ls.getD i []).length c) ∧ (ls.getD i []).length ≤ c ∧ w0.heap.size ≤ g ∧ w.cell? ⟨g, 0, none⟩ = some (.int .u8 (((ls.getD i []).getD 0 0).toNat : Int)) ∧ w.frozen? ⟨g, 0, none⟩ = false ∧ (∀ base n xs u, w.ownsRow base 9 1 u n xs → u.ownBlock ≠ some g) ∧
      ∀ u : UInt8, SpS w0 v vs (ls.set i ((ls.getD i []).set 0 u)) (w.setCell ⟨g, 0, none⟩ (.int .u8 ((u.toNat : Nat) : Int))) := by
  obtain ⟨g0, cap0, a, c, -, -, -, -, hv, ho⟩ := h.at hi
  obtain ⟨g, c', e, hc, hg, hlt, hf, hcell⟩ := own_place ho h0
  simp only [Value.slice.injEq] at e
  obtain ⟨rfl, -, rfl⟩ := e
  have hiv : i < vs.length := by rw [h.len]; exact hi
  have hvi : vs[i] = .slice (some ⟨g, 0, none⟩) (ls.getD i []).length c := by
    have := List.getElem?_eq_getElem hiv
    rw [hv] at this
    exact (Option.some.inj this).symm
  refine ⟨g, c, hv, hc, hg, ?_, hf 0, fun base n xs u hu hb => ?_, fun u => ?_⟩
  · rw [hcell 0 (by rw [List.length_map]; exact h0)]
    cases hl : ls.getD i [] with
    | nil => rw [hl] at h0; simp at h0
    | cons x l => rfl
  · exact own_neO hu ho (by decide) g hb rfl
  · refine ⟨by rw [List.length_set]; exact h.len, ?_, h.one⟩
    have hip : i < (pcR vs ls).length := by rw [pcR_len]; omega
    have hpi : (pcR vs ls)[i] = Rw.by 5 (.slice (some ⟨g, 0, none⟩) (ls.getD i []).length c) (ls.getD i []) := by
      have e := List.getElem?_eq_getElem hip
      rw [pcR_get vs ls hiv hi, hvi] at e
      rw [← Option.some.inj e]
      simp [hi]
    have h1 : OwnG w0 ((pcR vs ls)[i] :: (pcR vs ls).eraseIdx i ++ [⟨22, 1, v, ls.length, vs⟩]) w := by
      refine h.own.perm ?_
      refine List.Perm.trans (List.perm_append_comm (l₁ := (pcR vs ls)[i] :: (pcR vs ls).eraseIdx i) (l₂ := [⟨22, 1, v, ls.length, vs⟩])) ?_
      exact List.Perm.cons _ (perm_at19 hip)
    rw [hpi] at h1
    have h2 := OwnG.stored h1 0 (.int .u8 ((u.toNat : Nat) : Int))
    rw [pcR_set vs ls i _ hiv, List.length_set]
    have hip2 : i < ((pcR vs ls).set i (Rw.by 5 vs[i] ((ls.getD i []).set 0 u))).length := by rw [List.length_set]; exact hip
    have h3 := perm_at19 hip2
    rw [List.getElem_set_self, List.eraseIdx_set_eq] at h3
    refine h2.perm ?_
    have e1 : Rw.by 5 vs[i] ((ls.getD i []).set 0 u) = ⟨5, 1, .slice (some ⟨g, 0, none⟩) (ls.getD i []).length c, (ls.getD i []).length, ((ls.getD i []).map bv).set 0 (.int .u8 ((u.toNat : Nat) : Int))⟩ := by
      unfold Rw.by
      rw [hvi, List.length_set, List.map_set]
      rfl
    rw [e1] at h3 ⊢
    refine List.Perm.trans (List.Perm.cons _ h3.symm) ?_
    exact List.perm_append_comm (l₁ := [_]) (l₂ := _ :: (pcR vs ls).eraseIdx i)
theorem sp_pos (m : List UInt8) (j : Nat) (h : j < (spF m).1.length) : 0 < ((spF m).1.getD j []).length := by
  unfold spF at h ⊢
  split at h
  · simp at h
  · split at h
    · simp at h
    · rename_i h1 h2
      rw [if_neg h1, if_neg h2]
      simp only at h ⊢
      rw [sp_length] at h
      rw [sp_get m h, List.length_take, List.length_drop]
      omega

theorem sp_len19 (m : List UInt8) : (spF m).1.length ≤ m.length + 1 := by
  unfold spF
  split
  · simp
  · split
    · simp
    · simp only
      rw [sp_length]
      omega
set_option maxRecDepth 100000 in
set_option maxHeartbeats 16000000 in
theorem splits_walk (v : Value) (m : List UInt8) (w : World) (hr : Rd w v m) : Calls Try.prog 3 #[v] w fun e w' => e = .returned (.bool true) ∧ Below w.heap.size w w' := by
  obtain ⟨av, cv, rfl, -, -, -, -⟩ := id hr
  obtain ⟨M, hM⟩ : ∃ M, M = m.length := ⟨_, rfl⟩
  rw [← hM] at hr ⊢
  have HR : Hid (Rd w (.slice av M cv) m) := hr
  have HM : Hid (M = m.length) := hM
  clear hr hM
  go_enter Try.func3, Try.ntmps3
  go_wp2_with fail
  refine (awake_any w).mono ?_
  rintro e w1 ⟨rfl, b1⟩
  have HB1 : Hid (Below w.heap.size w w1) := b1
  by_cases hl : 70000 < M
  · have hd : decide ((70000 : Int) < (M : Int)) = true := decide_eq_true (by omega)
    clear b1
    go_wp2
    go_ret
    exact ⟨rfl, HB1.out⟩
  have hd : decide ((70000 : Int) < (M : Int)) = false := decide_eq_false (by omega)
  have HR1 : Hid (Rd w1 (.slice av M cv) m) := HR.out.kept b1
  have hcv := conv19 HR1.out
  obtain ⟨ls, hls⟩ : ∃ ls, ls = (spF m).1 := ⟨_, rfl⟩
  obtain ⟨er, her⟩ : ∃ er, er = (spF m).2 := ⟨_, rfl⟩
  have HSp : Hid (Calls Try.prog 9 #[.slice av M cv] w1 fun r w' => ∃ v' vs, r = .returned (.tuple #[v', .int .i64 er]) ∧ SpS w1 v' vs ls w') := by
    show Calls _ _ _ _ _
    rw [hls, her]
    exact split_any m _ w1 HR1.out
  have HSr : Hid (∀ W, Below w1.heap.size w1 W → Calls Try.prog 10 #[.slice av M cv] W fun r w' => ∃ v', r = .returned (.tuple #[v', .int .i64 er]) ∧ OwnG W [rwS v' ls] w') := by
    show ∀ W, _
    intro W hW
    rw [hls, her]
    exact split19_any m _ W (HR1.out.kept hW)
  have HPos : Hid (∀ j, j < ls.length → 0 < (ls.getD j []).length) := by
    show ∀ j, _
    rw [hls]
    exact sp_pos m
  have hnb : ls.length ≤ 80000 := by rw [hls]; have := sp_len19 m; have := HM.out; omega
  clear b1 hls her hl
  go_wp2_with fail
  refine Calls.mono HSp.out ?_
  rintro e w2 ⟨vl, vs, rfl, hS⟩
  have hrow := hS.own.rows _ (List.mem_cons_self ..)
  obtain ⟨al, cl, el, -, -, -⟩ := (RdC.of_own hrow).formF
  have HS2 : Hid (SpS w1 vl vs ls w2) := hS
  have HB2 : Hid (Below w1.heap.size w1 w2) := hS.own.below
  have el2 : vl = .slice al ls.length cl := by
    have := hS.len
    rw [← this]
    exact el
  subst el2
  clear el hS hrow HSp
  go_wp2_with fail
  refine (HSr.out _ HB2.out).mono ?_
  rintro e w3 ⟨vw, rfl, hO⟩
  have hro := hO.rows _ (List.mem_cons_self ..)
  have hro' : w3.ownsRow w2.heap.size 9 1 vw ls.length (ls.map sv) := hro
  obtain ⟨aw, cw, ew, -, -, -⟩ := (RdC.of_own hro').formF
  rw [List.length_map] at ew
  subst ew
  obtain ⟨n, hn⟩ : ∃ n, n = ls.length := ⟨_, rfl⟩
  have HN : Hid (n = ls.length) := hn
  rw [← hn] at HS2 hro' hnb ⊢
  have HW3 : Hid (w3.ownsRow 0 9 1 (.slice aw n cw) n (ls.map sv)) := own_monoG hro' (Nat.zero_le _)
  have HS3 : Hid (SpS w1 (.slice al n cl) vs ls w3) := ⟨HS2.out.len, HS2.out.own.kept hO.below, HS2.out.one⟩
  clear hO hro hro' hn HS2 HSr hcv
  go_wp2
  go_loopw [9] (fun iv wx => ∃ (i : Nat) (L : List (List UInt8)), i ≤ n ∧ iv = .int .i64 (i : Int) ∧ Hid (SpS w1 (.slice al n cl) vs L wx) ∧ Hid (L.length = n ∧ ∀ j, i ≤ j → L.getD j [] = ls.getD j []) ∧ Hid (wx.ownsRow 0 9 1 (.slice aw n cw) n (ls.map sv))) (fun iv _ => n - (intOf iv).toNat)
  case atStart => exact ⟨0, ls, by omega, rfl, HS3, ⟨HN.out.symm, fun _ _ => rfl⟩, HW3⟩
  case round =>
    obtain ⟨i, L, hi, rfl, HS, HL, HW⟩ := hrel
    clear HS3 HW3
    by_cases hlt : i < n
    · have hd2 : decide ((i : Int) < (n : Int)) = true := decide_eq_true (by omega)
      have hiI : (i : Int) < (n : Int) := by omega
      have hiL : i < L.length := by rw [HL.out.1]; exact hlt
      have hil : i < ls.length := by rw [← HN.out]; exact hlt
      obtain ⟨g, cap, a, c, hv, -, -, d0, hvi, ho⟩ := HS.out.at hiL
      simp only [Value.slice.injEq] at hv
      obtain ⟨rfl, -, rfl⟩ := hv
      have hLi := HL.out.2 i (Nat.le_refl _)
      have hpos := HPos.out i hil
      have HSd : Hid (SpS w1 (.slice (some ⟨g, 0, none⟩) n cl) vs L wr.drew.drew) := ⟨HS.out.len, HS.out.own.kept (Below.refl _ _).drew.drew, HS.out.one⟩
      have HWd : Hid (wr.drew.drew.ownsRow 0 9 1 (.slice aw n cw) n (ls.map sv)) := own_keptG HW.out (Below.refl _ _).drew.drew
      obtain ⟨gi, ci, hvi2, hci, hgi, dx, fx, hns, hst⟩ := HSd.out.store hiL (by rw [hLi]; exact hpos)
      rw [hvi] at hvi2
      simp only [Option.some.injEq, Value.slice.injEq, true_and] at hvi2
      obtain ⟨rfl, hcc⟩ := hvi2
      subst hcc
      have hrd := Rd.of_row ho
      rw [hLi] at hrd d0 hci dx
      have hcs : ∃ b off, aw = some ⟨b, off, none⟩ ∧ wr.cell? ⟨b, off + i, none⟩ = some (.string ⟨(ls.getD i []).toArray⟩) := by
        have h := RdC.of_own HW.out
        obtain ⟨b, off, cap', e, -, -, hc⟩ := h.cellAt (i := i) (by rw [List.length_map]; exact hil)
        simp only [Value.slice.injEq] at e
        refine ⟨b, off, e.1, ?_⟩
        rw [hc]
        simp [sv, hil]
      obtain ⟨bw, ow, rfl, hcw⟩ := hcs
      obtain ⟨x, hx⟩ : ∃ x : UInt8, x = (ls.getD i []).getD 0 0 := ⟨_, rfl⟩
      rw [← hx] at dx
      obtain ⟨X, hX⟩ : ∃ X : Nat, X = x.toNat := ⟨_, rfl⟩
      obtain ⟨Z, hZ⟩ : ∃ Z : Nat, Z = (x ^^^ 255).toNat := ⟨_, rfl⟩
      have hxor : bits .xor .u8 (X : Int) 255 = (Z : Int) := by rw [hX, hZ]; exact byte_xor x 255
      have hnx := hst (x ^^^ 255)
      rw [← hZ] at hnx
      rw [← hX] at dx
      have HNx : Hid (SpS w1 (.slice (some ⟨g, 0, none⟩) n cl) vs (L.set i ((L.getD i []).set 0 (x ^^^ 255))) (wr.drew.drew.setCell ⟨gi, 0, none⟩ (.int .u8 (Z : Int)))) := hnx
      have HWx : Hid ((wr.drew.drew.setCell ⟨gi, 0, none⟩ (.int .u8 (Z : Int))).ownsRow 0 9 1 (.slice (some ⟨bw, ow, none⟩) n cw) n (ls.map sv)) :=
        own_chgG HWd.out (Chg.of_wrote (Wrote.set gi 0 _ _)) fun b hb e => hns _ _ _ _ HWd.out (by rw [hb, e])
      have HRd : Hid (Rd wr (.slice (some ⟨gi, 0, none⟩) (ls.getD i []).length c) (ls.getD i [])) := hrd
      have HLx : Hid ((L.set i ((L.getD i []).set 0 (x ^^^ 255))).length = n ∧ ∀ j, i + 1 ≤ j → (L.set i ((L.getD i []).set 0 (x ^^^ 255))).getD j [] = ls.getD j []) := by
        refine ⟨by rw [List.length_set]; exact HL.out.1, fun j hj => ?_⟩
        rw [← HL.out.2 j (by omega)]
        simp only [List.getD_eq_getElem?_getD]
        rw [List.getElem?_set_ne (by omega)]
      obtain ⟨q, hq⟩ : ∃ q, q = ls.getD i [] := ⟨_, rfl⟩
      rw [← hq] at d0 hcw HRd hpos hci
      obtain ⟨P, hP⟩ : ∃ P, P = q.length := ⟨_, rfl⟩
      rw [← hP] at d0 HRd hpos hci
      have hposI : (0 : Int) < (P : Int) := by omega
      clear hst hns hnx hZ hX hx hq hP hrd ho hvi hLi hiL hil
      go_wp2_with fail
      refine wpG_begin (by kernel_rfl) ?_
      refine gU_ 0 rfl ⟨_, by intro W hW; go_simp <;> with_reducible rfl, ?_⟩
      try simp only [Act.put, pA_, pB_, pC_]
      refine gU_ 1 rfl ⟨_, by intro W hW; go_simp <;> with_reducible rfl, ?_⟩
      try simp only [Act.put, pA_, pB_, pC_]
      refine gU_ 2 rfl ⟨_, by intro W hW; go_simp <;> with_reducible rfl, ?_⟩
      try simp only [Act.put, pA_, pB_, pC_]
      refine gU_ 3 rfl ⟨_, by intro W hW; have hcW := cellFD d0 hW; go_simp <;> with_reducible rfl, ?_⟩
      try simp only [Act.put, pA_, pB_, pC_]
      refine gU_ 4 rfl ⟨_, by intro W hW; have hcv := conv19 (HRd.out.kept (stepB (Below.refl _ _).drew hW)); go_simp <;> with_reducible rfl, ?_⟩
      try simp only [Act.put, pA_, pB_, pC_]
      refine gU_ 5 rfl ⟨_, by intro W hW; go_simp <;> with_reducible rfl, ?_⟩
      try simp only [Act.put, pA_, pB_, pC_]
      refine gU_ 6 rfl ⟨_, by intro W hW; go_simp <;> with_reducible rfl, ?_⟩
      try simp only [Act.put, pA_, pB_, pC_]
      refine gU_ 7 rfl ⟨_, by intro W hW; go_simp <;> with_reducible rfl, ?_⟩
      try simp only [Act.put, pA_, pB_, pC_]
      refine gU_ 8 rfl ⟨_, by intro W hW; have hcW := cellFD hcw hW; go_simp <;> with_reducible rfl, ?_⟩
      try simp only [Act.put, pA_, pB_, pC_]
      refine gU_ 9 rfl ⟨_, by intro W hW; go_simp <;> with_reducible rfl, ?_⟩
      try simp only [Act.put, pA_, pB_, pC_]
      refine wpG_done (by kernel_rfl) ?_
      go_wp2_with fail
      have hB : Below wr.drew.heap.size wr.drew wr.drew.drew := (Below.refl _ _).drew
      refine wpF_begin 12 (w0 := wr.drew) (by kernel_rfl) ?_
      refine fP_ (.inr hB) 0 rfl ⟨_, by intro W; go_simp <;> with_reducible rfl, ?_⟩
      try simp only [Act.put, pA_, pB_, pC_]
      refine fP_ (.inr hB) 1 rfl ⟨_, by intro W; go_simp <;> with_reducible rfl, ?_⟩
      try simp only [Act.put, pA_, pB_, pC_]
      refine fP_ (.inr hB) 2 rfl ⟨_, by intro W; go_simp <;> with_reducible rfl, ?_⟩
      try simp only [Act.put, pA_, pB_, pC_]
      refine fU_ hB 3 rfl ⟨_, by intro W hW; have hcW := cellFD d0 (stepB (Below.refl _ _) hW); go_simp <;> with_reducible rfl, ?_⟩
      try simp only [Act.put, pA_, pB_, pC_]
      refine fP_ (.inr hB) 4 rfl ⟨_, by intro W; go_simp <;> with_reducible rfl, ?_⟩
      try simp only [Act.put, pA_, pB_, pC_]
      refine fP_ (.inr hB) 5 rfl ⟨_, by intro W; go_simp <;> with_reducible rfl, ?_⟩
      try simp only [Act.put, pA_, pB_, pC_]
      refine fP_ (.inr hB) 6 rfl ⟨_, by intro W; go_simp <;> with_reducible rfl, ?_⟩
      try simp only [Act.put, pA_, pB_, pC_]
      refine fU_ hB 7 rfl ⟨_, by intro W hW; have hcW := cellFD d0 (stepB (Below.refl _ _) hW); go_simp <;> with_reducible rfl, ?_⟩
      try simp only [Act.put, pA_, pB_, pC_]
      refine fP_ (.inr hB) 8 rfl ⟨_, by intro W; go_simp <;> with_reducible rfl, ?_⟩
      try simp only [Act.put, pA_, pB_, pC_]
      refine fU_ hB 9 rfl ⟨_, by intro W hW; have hcW := cellFD (w := wr) dx (stepB (Below.refl _ _) hW); go_simp <;> with_reducible rfl, ?_⟩
      try simp only [Act.put, pA_, pB_, pC_]
      refine fP_ (.inr hB) 10 rfl ⟨_, by intro W; go_simp <;> with_reducible rfl, ?_⟩
      try simp only [Act.put, pA_, pB_, pC_]
      refine fP_ (.inr hB) 11 rfl ⟨_, by intro W; go_simp <;> with_reducible rfl, ?_⟩
      try simp only [Act.put, pA_, pB_, pC_]
      refine fD_ 12 fun K hK => ?_
      go_simp
      refine hK.out _ _ (.inl rfl) ?_
      clear hK K
      try simp only [Act.put, pA_, pB_, pC_]
      refine wpF_done (by kernel_rfl) ?_
      go_wp2
      go_roundw
      case rel => exact ⟨i + 1, _, by omega, by go_num, HNx, HLx, HWx⟩
      case measure => simp [intOf] <;> omega
    · have hie : i = n := by omega
      have hd2 : decide ((i : Int) < (n : Int)) = false := decide_eq_false (by omega)
      have hiI : (n : Int) ≤ (i : Int) := by omega
      have HBf : Hid (Below w.heap.size w wr) := HB1.out.trans (HS.out.own.below.mono HB1.out.size)
      have hcv := conv19 (HR1.out.kept HS.out.own.below)
      clear hie
      go_wp2
      go_ret
      exact ⟨by simp, HBf.out⟩
end Go.Proofs.Ytkljklfejaojaaa
