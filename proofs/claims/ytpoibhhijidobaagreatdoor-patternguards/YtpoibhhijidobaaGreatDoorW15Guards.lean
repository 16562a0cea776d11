/- What the law PatternGuards answers at every input: the walk. -/
import Derived.Test.YtpoibhhijidobaaGreatDoorAw15
import Derived.Test.YtpoibhhijidobaaGreatDoorL15c
import Derived.Test.YtpoibhhijidobaaGreatDoorRef15k
import Derived.Test.YtpoibhhijidobaaGreatDoorRef15l
namespace Go.Proofs.YtpoibhhijidobaaGreatDoor
open Go.ChangeShapes Go.WideShapes Go.ChangeAt Go.RowKit
set_option linter.unusedSimpArgs false
set_option linter.unusedVariables false

/-- The i-th secret's keys, as both have them. -/
structure GdA (ax ay : Option Addr) (i : Nat) (b o b2 o2 : Nat) (a a2 : Option Addr) (c c2 : Nat) (K : List Say) (w : World) : Prop where
  x : ax = some ⟨b, o, none⟩
  y : ay = some ⟨b2, o2, none⟩
  cx : w.cell? ⟨b, o + i, none⟩ = some (.slice a K.length c)
  cy : w.cell? ⟨b2, o2 + i * 2 + 1, none⟩ = some (.slice a2 K.length c2)
  kx : KyR w (.slice a K.length c) K
  ky : KyR w (.slice a2 K.length c2) K
  lx : c ≤ maxLen
  ly : c2 ≤ maxLen
  zx : K.length ≤ c
  zy : K.length ≤ c2
theorem GdA.kept {ax ay : Option Addr} {i b o b2 o2 : Nat} {a a2 : Option Addr} {c c2 : Nat} {K : List Say} {w w' : World} (h : GdA ax ay i b o b2 o2 a a2 c c2 K w) (hb : Below w.heap.size w w') : GdA ax ay i b o b2 o2 a a2 c c2 K w' :=
  ⟨h.x, h.y, cellKP h.cx hb, cellKP h.cy hb, h.kx.kept hb, h.ky.kept hb, h.lx, h.ly, h.zx, h.zy⟩
theorem gd_at {w : World} {ax ay : Option Addr} {n m cx cy : Nat} {vs : List Value} {LK : ScL} {p : Ptn} (hx : RdC w (.slice ax n cx) vs) (hl : vs.length = (seL p).length)
    (hk : ∀ k (h : k < vs.length), KyR w vs[k] (scK ((seL p).getD k (false, 0)).2 (!((seL p).getD k (false, 0)).1))) (hy : ScR w (.slice ay m cy) LK) (hm : LK.map (·.1) = secL p) (i : Nat) (hi : i < (seL p).length) :
    ∃ b o b2 o2 a a2 c c2 K, GdA ax ay i b o b2 o2 a a2 c c2 K w := by
  have hll : LK.length = (seL p).length := by
    have := congrArg List.length hm
    rw [sec_eq, List.length_map, List.length_map] at this
    exact this
  obtain ⟨b2, o2, e2, -, cy2⟩ := hy.at i (by omega)
  have hky := hy.keys LK[i] (List.getElem_mem (by omega))
  have hkx := hk i (by omega)
  have eK : LK[i].1.2 = scK ((seL p).getD i (false, 0)).2 (!((seL p).getD i (false, 0)).1) := by
    have h1 : (LK.map (·.1))[i]? = (secL p)[i]? := by rw [hm]
    rw [sec_eq, List.getElem?_map, List.getElem?_map, List.getElem?_eq_getElem (by omega), List.getElem?_eq_getElem hi] at h1
    simp only [Option.map_some, Option.some.injEq] at h1
    rw [h1]
    simp [hi]
  rw [eK] at hky
  obtain ⟨a, c, e3, h31, h32⟩ := ky_len15 hkx
  obtain ⟨a2, c2, e4, h41, h42⟩ := hky.len
  obtain ⟨bx, ox, _, ev, -, -, hcx⟩ := hx.cellAt (i := i) (by omega)
  simp only [Value.slice.injEq] at ev
  have ex := ev.1
  refine ⟨bx, ox, b2, o2, a, a2, c, c2, _, ex, e2, ?_, ?_, ?_, ?_, h32, h42, h31, h41⟩
  · rw [hcx, ← e3]
  · rw [← e4, show o2 + i * 2 + 1 = o2 + (2 * i + 1) by omega]
    exact cy2
  · rw [← e3]
    exact hkx
  · rw [← e4]
    exact KyR.of_rdE hky

set_option maxRecDepth 100000 in
set_option maxHeartbeats 8000000 in
theorem guards_walk (p : Ptn) (vm : Value) (A : Array Value) (hA : A = (paC p vm).toArray) (hnm : p.name.length ≤ maxLen) (w : World) (h : MsR w vm p) (hT : TkT w) :
    Calls Tryz.prog 6 #[.agg A] w fun e w' => e = .returned (.bool true) ∧ Below w.heap.size w w' := by
  have HT : Hid (TkT w) := hT
  have HM : Hid (MsR w vm p) := h
  have HL : Hid (p.name.length ≤ maxLen) := hnm
  clear hT h hnm
  go_enter Tryz.func6, Tryz.ntmps6
  go_wp2_with (refine wpList_box_blk rfl 26 _ rfl (paC p vm) (by rw [← hA]; rfl) ?_)
  intro w1 r1 b1 s1
  clear s1 hA
  go_wp2_with fail
  refine (awake_any _ (HT.out.kept b1)).mono ?_
  rintro e w2 ⟨rfl, b2⟩
  replace r1 := r1.kept b2
  have hbw := stepB b1 b2
  clear b1 b2
  go_wp2_with (refine wpList_load_part rfl 26 _ rfl rfl [] (paC p vm) [] r1 (whole15 _) rfl Tryz.underlying26 rfl (paInfo p _) ?_)
  refine (few_any p vm _ rfl HL.out _ (HM.out.kept hbw)).mono ?_
  rintro e w3 ⟨rfl, b3⟩
  replace r1 := r1.kept b3
  replace hbw := stepB hbw b3
  clear b3
  obtain ⟨f, hf⟩ : ∃ f : Bool, f = fwB p := ⟨_, rfl⟩
  rw [← hf]
  cases f with
  | false =>
    clear hf
    go_wp2
    go_ret
    exact ⟨rfl, hbw⟩
  | true =>
    have HF : Hid _ := fwB_n hf.symm
    clear hf
    go_wp2_with (refine wpList_load_part rfl 26 _ rfl rfl [] (paC p vm) [] r1 (whole15 _) rfl Tryz.underlying26 rfl (paInfo p _) ?_)
    refine (model_any p vm _ rfl (Nat.le_trans HF.out.1 (by decide)) (fun k => Nat.le_trans (HF.out.2.2 k) (by decide)) _ (HM.out.kept hbw)).mono ?_
    rintro e w4 ⟨vi, vl, rfl, hR, b4⟩
    obtain ⟨ai, ci, al, cl, ei, el⟩ : ∃ ai ci al cl, vi = .slice ai p.n ci ∧ vl = .slice al p.n cl := by
      obtain ⟨ai, ci, e1, -⟩ := hR.lenI
      obtain ⟨al, cl, e2, -⟩ := hR.len
      exact ⟨ai, ci, al, cl, e1, e2⟩
    have HVi : Hid (vi = .slice ai p.n ci ∧ vl = .slice al p.n cl) := ⟨ei, el⟩
    replace r1 := r1.kept b4
    replace hbw := stepB hbw b4
    clear ei el b4
    go_wp2_with (refine wpList_alloc_blk rfl 33 rfl (ptC zeP (.slice none 0 0) (.slice none 0 0)) (allocPt _) ?_)
    intro w7 r7 b7 s7
    go_wp2_with (refine wpList_store_part rfl 33 _ _ rfl rfl (ptC p vi vl) rfl [] (ptC zeP (.slice none 0 0) (.slice none 0 0)) [] (ptC p vi vl) r7 (whole15 _) (whole15 _) rfl rfl (ptInfo zeP (.slice none 0 0) (.slice none 0 0)) (by rw [HVi.out.1, HVi.out.2]; exact ptC_all _ _ _ _ _ _ _) ?_)
    intro w8 r8 hw8
    have b8 := hw8.below _ _ (Nat.le_refl _) b7
    have hR8 : PtR w8 p vi vl := hR.kept b8
    replace r1 := r1.kept b8
    replace hbw := stepB hbw b8
    clear r7 b7 s7 hw8 b8 hR
    go_wp2_with (refine wpList_load_part rfl 26 _ rfl rfl [] (paC p vm) [] r1 (whole15 _) rfl Tryz.underlying26 rfl (paInfo p _) ?_)
    refine (guardsP_any p vm _ rfl HL.out _ (HM.out.kept hbw)).mono ?_
    rintro e w9 ⟨vx, vs, rfl, hx, hxl, hxk, b9⟩
    replace r1 := r1.kept b9
    replace r8 := r8.kept b9
    replace hR8 := hR8.kept b9
    replace hbw := stepB hbw b9
    have HX : Hid (RdC w9 vx vs ∧ vs.length = (seL p).length ∧ ∀ k (h : k < vs.length), KyR w9 vs[k] (scK ((seL p).getD k (false, 0)).2 (!((seL p).getD k (false, 0)).1))) := ⟨hx, hxl, hxk⟩
    obtain ⟨n, hn⟩ : ∃ n : Nat, n = (seL p).length := ⟨_, rfl⟩
    have HN : Hid (n = (seL p).length) := hn
    obtain ⟨ax, cx, rfl, hx1, hx2⟩ : ∃ a c, vx = .slice a n c ∧ n ≤ c ∧ c ≤ maxLen := by
      obtain ⟨a, c, e, h1, h2, -⟩ := hx
      rw [hxl, ← hn] at e h1
      exact ⟨a, c, e, h1, h2⟩
    clear hx hxl hxk b9 hn
    go_wp2_with (refine wpList_load_part rfl 33 _ rfl rfl [] (ptC p vi vl) [] r8 (whole15 _) rfl Tryz.underlying33 rfl (ptInfo p _ _) ?_)
    refine (secrets15_any p (Nat.le_trans HF.out.2.1 (by decide)) _ vi vl rfl _ hR8).mono ?_
    rintro e w10 ⟨vy, LK, rfl, hLK, hO⟩
    have hy := ScR.of_own hO
    have b10 := hO.below
    obtain ⟨ay, cy, rfl, hy1, hy2⟩ : ∃ a c, vy = .slice a n c ∧ n ≤ c ∧ c ≤ maxLen := by
      obtain ⟨a, c, e, h1, h2⟩ := hy.row.len
      have hll : LK.length = n := by
        have := congrArg List.length hLK
        rw [sec_eq, List.length_map, List.length_map] at this
        rw [HN.out]
        exact this
      rw [hll] at e h1
      exact ⟨a, c, e, h1, h2⟩
    have HG : Hid (∀ i, i < n → ∃ b o b2 o2 a a2 c c2 K, GdA ax ay i b o b2 o2 a a2 c c2 K w10.drew) := by
      show ∀ i, _
      intro i hi
      obtain ⟨b, o, b2, o2, a, a2, c, c2, K, hg⟩ := gd_at (HX.out.1.kept b10) HX.out.2.1 (fun k hk => (HX.out.2.2 k hk).kept b10) hy hLK i (by rw [← HN.out]; exact hi)
      exact ⟨b, o, b2, o2, a, a2, c, c2, K, hg.kept (Below.refl _ _).drew⟩
    have rd := (r1.kept b10).drew
    have re := (r8.kept b10).drew
    have HRe : Hid (PtR w10.drew p vi vl) := hR8.kept b10.drew
    replace hbw := (stepB hbw b10).drew
    have HMd : Hid (MsR w10.drew vm p) := HM.out.kept hbw
    unfold maxLen at hx2 hy2
    obtain ⟨Y, hY⟩ : ∃ y : Bool, y = hyB p := ⟨_, rfl⟩
    have HY : Hid (Y = hyB p) := hY
    have q1 : (Y != Y) = false := by simp
    have q2 : ((n : Int) != (n : Int)) = false := by simp
    clear r1 r8 hR8 HX hO hy b10 hY hLK
    go_wp2_with fail
    refine wpG_begin (by kernel_rfl) ?_
    refine wpG_take (i := 0) (oi := { dst := some 23, op := Op.move (Operand.tmp 6), type := 44, pos := "law.go:110", after := #[], guard := none }) (v := ?_) rfl (by kernel_rfl) (by kernel_rfl) (by kernel_rfl) (by rfl) ?_ ?_
    rotate_left
    · intro W hW; first | (go_simp; done) | (go_simp; with_reducible rfl)
    try simp only [Act.put, List.setIfInBounds_toArray, List.set_cons_zero, List.set_cons_succ]
    refine wpG_take (i := 1) (oi := { dst := some 24, op := Op.call { callee := Callee.builtin Builtin.len, args := #[Operand.tmp 23], argTypes := #[44] }, type := 3, pos := "law.go:110", after := #[{ on := 0, ground := Ground.data }], guard := none }) (v := ?_) rfl (by kernel_rfl) (by kernel_rfl) (by kernel_rfl) (by rfl) ?_ ?_
    rotate_left
    · intro W hW; first | (go_simp; done) | (go_simp; with_reducible rfl)
    try simp only [Act.put, List.setIfInBounds_toArray, List.set_cons_zero, List.set_cons_succ]
    refine wpG_take (i := 2) (oi := { dst := some 25, op := Op.move (Operand.tmp 7), type := 46, pos := "law.go:110", after := #[], guard := none }) (v := ?_) rfl (by kernel_rfl) (by kernel_rfl) (by kernel_rfl) (by rfl) ?_ ?_
    rotate_left
    · intro W hW; first | (go_simp; done) | (go_simp; with_reducible rfl)
    try simp only [Act.put, List.setIfInBounds_toArray, List.set_cons_zero, List.set_cons_succ]
    refine wpG_take (i := 3) (oi := { dst := some 26, op := Op.call { callee := Callee.builtin Builtin.len, args := #[Operand.tmp 25], argTypes := #[46] }, type := 3, pos := "law.go:110", after := #[{ on := 2, ground := Ground.data }], guard := none }) (v := ?_) rfl (by kernel_rfl) (by kernel_rfl) (by kernel_rfl) (by rfl) ?_ ?_
    rotate_left
    · intro W hW; first | (go_simp; done) | (go_simp; with_reducible rfl)
    try simp only [Act.put, List.setIfInBounds_toArray, List.set_cons_zero, List.set_cons_succ]
    refine wpG_take (i := 4) (oi := { dst := some 27, op := Op.binOp BinOp.neq 3 (Operand.tmp 24) (Operand.tmp 26) 3, type := 4, pos := "law.go:110", after := #[{ on := 1, ground := Ground.data }, { on := 3, ground := Ground.data }], guard := none }) (v := ?_) rfl (by kernel_rfl) (by kernel_rfl) (by kernel_rfl) (by rfl) ?_ ?_
    rotate_left
    · intro W hW; first | (go_simp; done) | (go_simp; with_reducible rfl)
    try simp only [Act.put, List.setIfInBounds_toArray, List.set_cons_zero, List.set_cons_succ]
    refine wpG_take (i := 5) (oi := { dst := some 28, op := Op.move (Operand.tmp 27), type := 4, pos := "law.go:110", after := #[{ on := 4, ground := Ground.data }], guard := none }) (v := ?_) rfl (by kernel_rfl) (by kernel_rfl) (by kernel_rfl) (by rfl) ?_ ?_
    rotate_left
    · intro W hW; first | (go_simp; done) | (go_simp; with_reducible rfl)
    try simp only [Act.put, List.setIfInBounds_toArray, List.set_cons_zero, List.set_cons_succ]
    refine wpG_take (i := 6) (oi := { dst := some 29, op := Op.load 26 (Operand.tmp 1), type := 26, pos := "law.go:110", after := #[{ on := 5, ground := Ground.guard }], guard := some (5, false) }) (v := ?_) rfl (by kernel_rfl) (by kernel_rfl) (by kernel_rfl) (by rfl) ?_ ?_
    rotate_left
    · intro W hW; refine Eq.trans (exec_load_part 26 _ (by rfl) (by rfl) [] (paC p vm) [] rd hW (whole15 _) rfl Tryz.underlying26 rfl (paInfo p _)) ?_; with_reducible rfl
    try simp only [Act.put, List.setIfInBounds_toArray, List.set_cons_zero, List.set_cons_succ]
    refine wpG_take (i := 8) (oi := { dst := some 31, op := Op.load 33 (Operand.tmp 5), type := 33, pos := "law.go:110", after := #[{ on := 5, ground := Ground.guard }], guard := some (5, false) }) (v := ?_) rfl (by kernel_rfl) (by kernel_rfl) (by kernel_rfl) (by rfl) ?_ ?_
    rotate_left
    · intro W hW; refine Eq.trans (exec_load_part 33 _ (by rfl) (by rfl) [] (ptC p vi vl) [] re hW (whole15 _) rfl Tryz.underlying33 rfl (ptInfo p _ _)) ?_; with_reducible rfl
    try simp only [Act.put, List.setIfInBounds_toArray, List.set_cons_zero, List.set_cons_succ]
    refine wpG_do (i := 7) (o := { dst := some 30, op := Op.call { callee := Callee.value (Operand.func 21), args := #[Operand.tmp 29], argTypes := #[26] }, type := 4, pos := "law.go:110", after := #[{ on := 6, ground := Ground.data }, { on := 5, ground := Ground.chain }, { on := 5, ground := Ground.guard }], guard := some (5, false) }) (by kernel_rfl) rfl (by rfl) fun K hK => ?_
    go_simp
    refine (hybrid_any p vm _ rfl HL.out _ HMd.out).mono ?_
    rintro e w11 ⟨rfl, b11⟩
    rw [← HY.out]
    refine hK.out _ _ b11 ?_
    clear hK K
    try simp only [Act.put, List.setIfInBounds_toArray, List.set_cons_zero, List.set_cons_succ]
    refine wpG_do (i := 9) (o := { dst := some 32, op := Op.call { callee := Callee.value (Operand.func 22), args := #[Operand.tmp 31], argTypes := #[33] }, type := 4, pos := "law.go:110", after := #[{ on := 8, ground := Ground.data }, { on := 7, ground := Ground.chain }, { on := 5, ground := Ground.guard }], guard := some (5, false) }) (by kernel_rfl) rfl (by rfl) fun K hK => ?_
    go_simp
    refine (hybrid15_any p (Nat.le_trans HF.out.2.1 (by decide)) _ vi vl rfl _ (HRe.out.kept b11)).mono ?_
    rintro e w12 ⟨rfl, b12⟩
    rw [← HY.out]
    refine hK.out _ _ b12 ?_
    clear hK K
    try simp only [Act.put, List.setIfInBounds_toArray, List.set_cons_zero, List.set_cons_succ]
    refine wpG_take (i := 10) (oi := { dst := some 33, op := Op.binOp BinOp.neq 4 (Operand.tmp 30) (Operand.tmp 32) 4, type := 4, pos := "law.go:110", after := #[{ on := 7, ground := Ground.data }, { on := 9, ground := Ground.data }, { on := 5, ground := Ground.guard }], guard := some (5, false) }) (v := ?_) rfl (by kernel_rfl) (by kernel_rfl) (by kernel_rfl) (by rfl) ?_ ?_
    rotate_left
    · intro W hW; first | (go_simp; done) | (go_simp; with_reducible rfl)
    try simp only [Act.put, List.setIfInBounds_toArray, List.set_cons_zero, List.set_cons_succ]
    refine wpG_take (i := 11) (oi := { dst := some 34, op := Op.pick (Operand.tmp 28) (Operand.const (Value.bool true)) (Operand.tmp 33), type := 4, pos := "law.go:110", after := #[{ on := 5, ground := Ground.data }, { on := 10, ground := Ground.data }], guard := none }) (v := ?_) rfl (by kernel_rfl) (by kernel_rfl) (by kernel_rfl) (by rfl) ?_ ?_
    rotate_left
    · intro W hW; first | (go_simp; done) | (go_simp; with_reducible rfl)
    try simp only [Act.put, List.setIfInBounds_toArray, List.set_cons_zero, List.set_cons_succ]
    refine wpG_done (by kernel_rfl) ?_
    have hb12 := stepB b11 b12
    have HBw : Hid (Below w.heap.size w w10.drew) := hbw
    generalize w10.drew = WG at HG hb12 HBw
    clear rd re HRe hbw b11 b12 q1 q2 HMd
    go_wp2
    go_loopw [8] (fun iv wx => ∃ i : Nat, i ≤ n ∧ iv = .int .i64 (i : Int) ∧ Below WG.heap.size WG wx) (fun iv _ => n - (intOf iv).toNat)
    case atStart => exact ⟨0, by omega, rfl, hb12⟩
    case round =>
      obtain ⟨i, hi, rfl, hbx⟩ := hrel
      clear hb12
      by_cases hlt : i < n
      · have hd : decide ((i : Int) < (n : Int)) = true := decide_eq_true (by omega)
        have hiI : (i : Int) < (n : Int) := by omega
        obtain ⟨b, o, b2, o2, a, a2, c, c2, K, hg⟩ := HG.out i hlt
        obtain ⟨rfl, rfl, -, -, -, -, l1, l2, z1, z2⟩ := id hg
        have HGA : Hid (GdA (some ⟨b, o, none⟩) (some ⟨b2, o2, none⟩) i b o b2 o2 a a2 c c2 K WG) := hg
        obtain ⟨m, hm⟩ : ∃ m : Nat, m = K.length := ⟨_, rfl⟩
        have HMk : Hid (m = K.length) := hm
        have c1 : wr.cell? ⟨b, o + i, none⟩ = some (.slice a m c) := by rw [hm]; exact cellKP hg.cx hbx
        have c2' : wr.cell? ⟨b2, o2 + i * 2 + 1, none⟩ = some (.slice a2 m c2) := by rw [hm]; exact cellKP hg.cy hbx
        rw [← hm] at z1 z2
        unfold maxLen at l1 l2
        have q3 : ((m : Int) != (m : Int)) = false := by simp
        clear hg hm
        go_wp2_with fail
        refine wpG_begin (by kernel_rfl) ?_
        refine wpG_take (i := 0) (oi := { dst := some 41, op := Op.move (Operand.tmp 6), type := 44, pos := "law.go:114", after := #[], guard := none }) (v := ?_) rfl (by kernel_rfl) (by kernel_rfl) (by kernel_rfl) (by rfl) ?_ ?_
        rotate_left
        · intro W hW; first | (go_simp; done) | (go_simp; with_reducible rfl)
        try simp only [Act.put, List.setIfInBounds_toArray, List.set_cons_zero, List.set_cons_succ]
        refine wpG_take (i := 1) (oi := { dst := some 42, op := Op.move (Operand.tmp 8), type := 3, pos := "law.go:114", after := #[], guard := none }) (v := ?_) rfl (by kernel_rfl) (by kernel_rfl) (by kernel_rfl) (by rfl) ?_ ?_
        rotate_left
        · intro W hW; first | (go_simp; done) | (go_simp; with_reducible rfl)
        try simp only [Act.put, List.setIfInBounds_toArray, List.set_cons_zero, List.set_cons_succ]
        refine wpG_take (i := 2) (oi := { dst := some 43, op := Op.indexAddr 44 (Operand.tmp 41) (Operand.tmp 42), type := 0, pos := "law.go:114", after := #[{ on := 0, ground := Ground.data }, { on := 1, ground := Ground.data }], guard := none }) (v := ?_) rfl (by kernel_rfl) (by kernel_rfl) (by kernel_rfl) (by rfl) ?_ ?_
        rotate_left
        · intro W hW; first | (go_simp; done) | (go_simp; with_reducible rfl)
        try simp only [Act.put, List.setIfInBounds_toArray, List.set_cons_zero, List.set_cons_succ]
        refine wpG_take (i := 3) (oi := { dst := some 44, op := Op.load 49 (Operand.tmp 43), type := 49, pos := "law.go:114", after := #[{ on := 2, ground := Ground.data }], guard := none }) (v := ?_) rfl (by kernel_rfl) (by kernel_rfl) (by kernel_rfl) (by rfl) ?_ ?_
        rotate_left
        · intro W hW; have hcW := cellDK15 c1 hW; first | (go_simp; done) | (go_simp; with_reducible rfl)
        try simp only [Act.put, List.setIfInBounds_toArray, List.set_cons_zero, List.set_cons_succ]
        refine wpG_take (i := 4) (oi := { dst := some 45, op := Op.call { callee := Callee.builtin Builtin.len, args := #[Operand.tmp 44], argTypes := #[49] }, type := 3, pos := "law.go:114", after := #[{ on := 3, ground := Ground.data }], guard := none }) (v := ?_) rfl (by kernel_rfl) (by kernel_rfl) (by kernel_rfl) (by rfl) ?_ ?_
        rotate_left
        · intro W hW; first | (go_simp; done) | (go_simp; with_reducible rfl)
        try simp only [Act.put, List.setIfInBounds_toArray, List.set_cons_zero, List.set_cons_succ]
        refine wpG_take (i := 5) (oi := { dst := some 46, op := Op.move (Operand.tmp 7), type := 46, pos := "law.go:114", after := #[], guard := none }) (v := ?_) rfl (by kernel_rfl) (by kernel_rfl) (by kernel_rfl) (by rfl) ?_ ?_
        rotate_left
        · intro W hW; first | (go_simp; done) | (go_simp; with_reducible rfl)
        try simp only [Act.put, List.setIfInBounds_toArray, List.set_cons_zero, List.set_cons_succ]
        refine wpG_take (i := 6) (oi := { dst := some 47, op := Op.move (Operand.tmp 8), type := 3, pos := "law.go:114", after := #[], guard := none }) (v := ?_) rfl (by kernel_rfl) (by kernel_rfl) (by kernel_rfl) (by rfl) ?_ ?_
        rotate_left
        · intro W hW; first | (go_simp; done) | (go_simp; with_reducible rfl)
        try simp only [Act.put, List.setIfInBounds_toArray, List.set_cons_zero, List.set_cons_succ]
        refine wpG_take (i := 7) (oi := { dst := some 48, op := Op.indexAddr 46 (Operand.tmp 46) (Operand.tmp 47), type := 0, pos := "law.go:114", after := #[{ on := 5, ground := Ground.data }, { on := 6, ground := Ground.data }], guard := none }) (v := ?_) rfl (by kernel_rfl) (by kernel_rfl) (by kernel_rfl) (by rfl) ?_ ?_
        rotate_left
        · intro W hW; first | (go_simp; done) | (go_simp; with_reducible rfl)
        try simp only [Act.put, List.setIfInBounds_toArray, List.set_cons_zero, List.set_cons_succ]
        refine wpG_take (i := 8) (oi := { dst := some 49, op := Op.fieldAddr 52 (Operand.tmp 48) 1, type := 0, pos := "law.go:114", after := #[{ on := 7, ground := Ground.data }], guard := none }) (v := ?_) rfl (by kernel_rfl) (by kernel_rfl) (by kernel_rfl) (by rfl) ?_ ?_
        rotate_left
        · intro W hW; first | (go_simp; done) | (go_simp; with_reducible rfl)
        try simp only [Act.put, List.setIfInBounds_toArray, List.set_cons_zero, List.set_cons_succ]
        refine wpG_take (i := 9) (oi := { dst := some 50, op := Op.load 50 (Operand.tmp 49), type := 50, pos := "law.go:114", after := #[{ on := 8, ground := Ground.data }], guard := none }) (v := ?_) rfl (by kernel_rfl) (by kernel_rfl) (by kernel_rfl) (by rfl) ?_ ?_
        rotate_left
        · intro W hW; have hcW := cellDK15 c2' hW; first | (go_simp; done) | (go_simp; with_reducible rfl)
        try simp only [Act.put, List.setIfInBounds_toArray, List.set_cons_zero, List.set_cons_succ]
        refine wpG_take (i := 10) (oi := { dst := some 51, op := Op.call { callee := Callee.builtin Builtin.len, args := #[Operand.tmp 50], argTypes := #[50] }, type := 3, pos := "law.go:114", after := #[{ on := 9, ground := Ground.data }], guard := none }) (v := ?_) rfl (by kernel_rfl) (by kernel_rfl) (by kernel_rfl) (by rfl) ?_ ?_
        rotate_left
        · intro W hW; first | (go_simp; done) | (go_simp; with_reducible rfl)
        try simp only [Act.put, List.setIfInBounds_toArray, List.set_cons_zero, List.set_cons_succ]
        refine wpG_take (i := 11) (oi := { dst := some 52, op := Op.binOp BinOp.neq 3 (Operand.tmp 45) (Operand.tmp 51) 3, type := 4, pos := "law.go:114", after := #[{ on := 4, ground := Ground.data }, { on := 10, ground := Ground.data }], guard := none }) (v := ?_) rfl (by kernel_rfl) (by kernel_rfl) (by kernel_rfl) (by rfl) ?_ ?_
        rotate_left
        · intro W hW; first | (go_simp; done) | (go_simp; with_reducible rfl)
        try simp only [Act.put, List.setIfInBounds_toArray, List.set_cons_zero, List.set_cons_succ]
        refine wpG_done (by kernel_rfl) ?_
        replace hbx := hbx.drew
        generalize wr.drew = W at hbx ⊢
        clear c1 c2' q3
        go_wp2
        go_loopw [9] (fun jv wx => ∃ j : Nat, j ≤ m ∧ jv = .int .i64 (j : Int) ∧ Below WG.heap.size WG wx) (fun jv _ => m - (intOf jv).toNat)
        case atStart => exact ⟨0, by omega, rfl, hbx⟩
        case round =>
          obtain ⟨j, hj, rfl, hbj⟩ := hrel
          clear hbx
          have x1 : wr.cell? ⟨b, o + i, none⟩ = some (.slice a m c) := by rw [HMk.out]; exact cellKP HGA.out.cx hbj
          have y1 : wr.cell? ⟨b2, o2 + i * 2 + 1, none⟩ = some (.slice a2 m c2) := by rw [HMk.out]; exact cellKP HGA.out.cy hbj
          by_cases hjt : j < m
          · have hd2 : decide ((j : Int) < (m : Int)) = true := decide_eq_true (by omega)
            have hjI : (j : Int) < (m : Int) := by omega
            obtain ⟨b5, o5, rfl, k1, k2⟩ := HGA.out.kx.at (k := j) (by rw [← HMk.out]; exact hjt)
            obtain ⟨b6, o6, rfl, k3, k4⟩ := HGA.out.ky.at (k := j) (by rw [← HMk.out]; exact hjt)
            replace k1 := cellKP k1 hbj
            replace k2 := cellKP k2 hbj
            replace k3 := cellKP k3 hbj
            replace k4 := cellKP k4 hbj
            generalize (K.getD j (false, 0)).1 = q at k1 k3
            generalize (K.getD j (false, 0)).2 = t at k2 k4
            have ez : (q != q) = false := by simp
            have ey : (t != t) = false := by simp
            go_wp2_with fail
            refine wpG_begin (by kernel_rfl) ?_
            refine wpG_take (i := 0) (oi := { dst := some 62, op := Op.move (Operand.tmp 6), type := 44, pos := "law.go:118", after := #[], guard := none }) (v := ?_) rfl (by kernel_rfl) (by kernel_rfl) (by kernel_rfl) (by rfl) ?_ ?_
            rotate_left
            · intro W hW; first | (go_simp; done) | (go_simp; with_reducible rfl)
            try simp only [Act.put, List.setIfInBounds_toArray, List.set_cons_zero, List.set_cons_succ]
            refine wpG_take (i := 1) (oi := { dst := some 63, op := Op.move (Operand.tmp 8), type := 3, pos := "law.go:118", after := #[], guard := none }) (v := ?_) rfl (by kernel_rfl) (by kernel_rfl) (by kernel_rfl) (by rfl) ?_ ?_
            rotate_left
            · intro W hW; first | (go_simp; done) | (go_simp; with_reducible rfl)
            try simp only [Act.put, List.setIfInBounds_toArray, List.set_cons_zero, List.set_cons_succ]
            refine wpG_take (i := 2) (oi := { dst := some 64, op := Op.indexAddr 44 (Operand.tmp 62) (Operand.tmp 63), type := 0, pos := "law.go:118", after := #[{ on := 0, ground := Ground.data }, { on := 1, ground := Ground.data }], guard := none }) (v := ?_) rfl (by kernel_rfl) (by kernel_rfl) (by kernel_rfl) (by rfl) ?_ ?_
            rotate_left
            · intro W hW; first | (go_simp; done) | (go_simp; with_reducible rfl)
            try simp only [Act.put, List.setIfInBounds_toArray, List.set_cons_zero, List.set_cons_succ]
            refine wpG_take (i := 3) (oi := { dst := some 65, op := Op.load 49 (Operand.tmp 64), type := 49, pos := "law.go:118", after := #[{ on := 2, ground := Ground.data }], guard := none }) (v := ?_) rfl (by kernel_rfl) (by kernel_rfl) (by kernel_rfl) (by rfl) ?_ ?_
            rotate_left
            · intro W hW; have hcW := cellDK15 x1 hW; first | (go_simp; done) | (go_simp; with_reducible rfl)
            try simp only [Act.put, List.setIfInBounds_toArray, List.set_cons_zero, List.set_cons_succ]
            refine wpG_take (i := 4) (oi := { dst := some 66, op := Op.move (Operand.tmp 9), type := 3, pos := "law.go:118", after := #[], guard := none }) (v := ?_) rfl (by kernel_rfl) (by kernel_rfl) (by kernel_rfl) (by rfl) ?_ ?_
            rotate_left
            · intro W hW; first | (go_simp; done) | (go_simp; with_reducible rfl)
            try simp only [Act.put, List.setIfInBounds_toArray, List.set_cons_zero, List.set_cons_succ]
            refine wpG_take (i := 5) (oi := { dst := some 67, op := Op.indexAddr 49 (Operand.tmp 65) (Operand.tmp 66), type := 0, pos := "law.go:118", after := #[{ on := 3, ground := Ground.data }, { on := 4, ground := Ground.data }], guard := none }) (v := ?_) rfl (by kernel_rfl) (by kernel_rfl) (by kernel_rfl) (by rfl) ?_ ?_
            rotate_left
            · intro W hW; first | (go_simp; done) | (go_simp; with_reducible rfl)
            try simp only [Act.put, List.setIfInBounds_toArray, List.set_cons_zero, List.set_cons_succ]
            refine wpG_take (i := 6) (oi := { dst := some 68, op := Op.fieldAddr 55 (Operand.tmp 67) 0, type := 0, pos := "law.go:118", after := #[{ on := 5, ground := Ground.data }], guard := none }) (v := ?_) rfl (by kernel_rfl) (by kernel_rfl) (by kernel_rfl) (by rfl) ?_ ?_
            rotate_left
            · intro W hW; first | (go_simp; done) | (go_simp; with_reducible rfl)
            try simp only [Act.put, List.setIfInBounds_toArray, List.set_cons_zero, List.set_cons_succ]
            refine wpG_take (i := 7) (oi := { dst := some 69, op := Op.load 4 (Operand.tmp 68), type := 4, pos := "law.go:118", after := #[{ on := 6, ground := Ground.data }], guard := none }) (v := ?_) rfl (by kernel_rfl) (by kernel_rfl) (by kernel_rfl) (by rfl) ?_ ?_
            rotate_left
            · intro W hW; have hcW := cellDK15 k1 hW; first | (go_simp; done) | (go_simp; with_reducible rfl)
            try simp only [Act.put, List.setIfInBounds_toArray, List.set_cons_zero, List.set_cons_succ]
            refine wpG_take (i := 8) (oi := { dst := some 70, op := Op.move (Operand.tmp 7), type := 46, pos := "law.go:118", after := #[], guard := none }) (v := ?_) rfl (by kernel_rfl) (by kernel_rfl) (by kernel_rfl) (by rfl) ?_ ?_
            rotate_left
            · intro W hW; first | (go_simp; done) | (go_simp; with_reducible rfl)
            try simp only [Act.put, List.setIfInBounds_toArray, List.set_cons_zero, List.set_cons_succ]
            refine wpG_take (i := 9) (oi := { dst := some 71, op := Op.move (Operand.tmp 8), type := 3, pos := "law.go:118", after := #[], guard := none }) (v := ?_) rfl (by kernel_rfl) (by kernel_rfl) (by kernel_rfl) (by rfl) ?_ ?_
            rotate_left
            · intro W hW; first | (go_simp; done) | (go_simp; with_reducible rfl)
            try simp only [Act.put, List.setIfInBounds_toArray, List.set_cons_zero, List.set_cons_succ]
            refine wpG_take (i := 10) (oi := { dst := some 72, op := Op.indexAddr 46 (Operand.tmp 70) (Operand.tmp 71), type := 0, pos := "law.go:118", after := #[{ on := 8, ground := Ground.data }, { on := 9, ground := Ground.data }], guard := none }) (v := ?_) rfl (by kernel_rfl) (by kernel_rfl) (by kernel_rfl) (by rfl) ?_ ?_
            rotate_left
            · intro W hW; first | (go_simp; done) | (go_simp; with_reducible rfl)
            try simp only [Act.put, List.setIfInBounds_toArray, List.set_cons_zero, List.set_cons_succ]
            refine wpG_take (i := 11) (oi := { dst := some 73, op := Op.fieldAddr 52 (Operand.tmp 72) 1, type := 0, pos := "law.go:118", after := #[{ on := 10, ground := Ground.data }], guard := none }) (v := ?_) rfl (by kernel_rfl) (by kernel_rfl) (by kernel_rfl) (by rfl) ?_ ?_
            rotate_left
            · intro W hW; first | (go_simp; done) | (go_simp; with_reducible rfl)
            try simp only [Act.put, List.setIfInBounds_toArray, List.set_cons_zero, List.set_cons_succ]
            refine wpG_take (i := 12) (oi := { dst := some 74, op := Op.load 50 (Operand.tmp 73), type := 50, pos := "law.go:118", after := #[{ on := 11, ground := Ground.data }], guard := none }) (v := ?_) rfl (by kernel_rfl) (by kernel_rfl) (by kernel_rfl) (by rfl) ?_ ?_
            rotate_left
            · intro W hW; have hcW := cellDK15 y1 hW; first | (go_simp; done) | (go_simp; with_reducible rfl)
            try simp only [Act.put, List.setIfInBounds_toArray, List.set_cons_zero, List.set_cons_succ]
            refine wpG_take (i := 13) (oi := { dst := some 75, op := Op.move (Operand.tmp 9), type := 3, pos := "law.go:118", after := #[], guard := none }) (v := ?_) rfl (by kernel_rfl) (by kernel_rfl) (by kernel_rfl) (by rfl) ?_ ?_
            rotate_left
            · intro W hW; first | (go_simp; done) | (go_simp; with_reducible rfl)
            try simp only [Act.put, List.setIfInBounds_toArray, List.set_cons_zero, List.set_cons_succ]
            refine wpG_take (i := 14) (oi := { dst := some 76, op := Op.indexAddr 50 (Operand.tmp 74) (Operand.tmp 75), type := 0, pos := "law.go:118", after := #[{ on := 12, ground := Ground.data }, { on := 13, ground := Ground.data }], guard := none }) (v := ?_) rfl (by kernel_rfl) (by kernel_rfl) (by kernel_rfl) (by rfl) ?_ ?_
            rotate_left
            · intro W hW; first | (go_simp; done) | (go_simp; with_reducible rfl)
            try simp only [Act.put, List.setIfInBounds_toArray, List.set_cons_zero, List.set_cons_succ]
            refine wpG_take (i := 15) (oi := { dst := some 77, op := Op.fieldAddr 57 (Operand.tmp 76) 0, type := 0, pos := "law.go:118", after := #[{ on := 14, ground := Ground.data }], guard := none }) (v := ?_) rfl (by kernel_rfl) (by kernel_rfl) (by kernel_rfl) (by rfl) ?_ ?_
            rotate_left
            · intro W hW; first | (go_simp; done) | (go_simp; with_reducible rfl)
            try simp only [Act.put, List.setIfInBounds_toArray, List.set_cons_zero, List.set_cons_succ]
            refine wpG_take (i := 16) (oi := { dst := some 78, op := Op.load 4 (Operand.tmp 77), type := 4, pos := "law.go:118", after := #[{ on := 15, ground := Ground.data }], guard := none }) (v := ?_) rfl (by kernel_rfl) (by kernel_rfl) (by kernel_rfl) (by rfl) ?_ ?_
            rotate_left
            · intro W hW; have hcW := cellDK15 k3 hW; first | (go_simp; done) | (go_simp; with_reducible rfl)
            try simp only [Act.put, List.setIfInBounds_toArray, List.set_cons_zero, List.set_cons_succ]
            refine wpG_take (i := 17) (oi := { dst := some 79, op := Op.binOp BinOp.neq 4 (Operand.tmp 69) (Operand.tmp 78) 4, type := 4, pos := "law.go:118", after := #[{ on := 7, ground := Ground.data }, { on := 16, ground := Ground.data }], guard := none }) (v := ?_) rfl (by kernel_rfl) (by kernel_rfl) (by kernel_rfl) (by rfl) ?_ ?_
            rotate_left
            · intro W hW; first | (go_simp; done) | (go_simp; with_reducible rfl)
            try simp only [Act.put, List.setIfInBounds_toArray, List.set_cons_zero, List.set_cons_succ]
            refine wpG_take (i := 18) (oi := { dst := some 80, op := Op.move (Operand.tmp 79), type := 4, pos := "law.go:118", after := #[{ on := 17, ground := Ground.data }], guard := none }) (v := ?_) rfl (by kernel_rfl) (by kernel_rfl) (by kernel_rfl) (by rfl) ?_ ?_
            rotate_left
            · intro W hW; first | (go_simp; done) | (go_simp; with_reducible rfl)
            try simp only [Act.put, List.setIfInBounds_toArray, List.set_cons_zero, List.set_cons_succ]
            refine wpG_take (i := 19) (oi := { dst := some 81, op := Op.move (Operand.tmp 6), type := 44, pos := "law.go:118", after := #[{ on := 18, ground := Ground.guard }], guard := some (18, false) }) (v := ?_) rfl (by kernel_rfl) (by kernel_rfl) (by kernel_rfl) (by rfl) ?_ ?_
            rotate_left
            · intro W hW; first | (go_simp; done) | (go_simp; with_reducible rfl)
            try simp only [Act.put, List.setIfInBounds_toArray, List.set_cons_zero, List.set_cons_succ]
            refine wpG_take (i := 20) (oi := { dst := some 82, op := Op.move (Operand.tmp 8), type := 3, pos := "law.go:118", after := #[{ on := 18, ground := Ground.guard }], guard := some (18, false) }) (v := ?_) rfl (by kernel_rfl) (by kernel_rfl) (by kernel_rfl) (by rfl) ?_ ?_
            rotate_left
            · intro W hW; first | (go_simp; done) | (go_simp; with_reducible rfl)
            try simp only [Act.put, List.setIfInBounds_toArray, List.set_cons_zero, List.set_cons_succ]
            refine wpG_take (i := 21) (oi := { dst := some 83, op := Op.indexAddr 44 (Operand.tmp 81) (Operand.tmp 82), type := 0, pos := "law.go:118", after := #[{ on := 19, ground := Ground.data }, { on := 20, ground := Ground.data }, { on := 18, ground := Ground.guard }], guard := some (18, false) }) (v := ?_) rfl (by kernel_rfl) (by kernel_rfl) (by kernel_rfl) (by rfl) ?_ ?_
            rotate_left
            · intro W hW; first | (go_simp; done) | (go_simp; with_reducible rfl)
            try simp only [Act.put, List.setIfInBounds_toArray, List.set_cons_zero, List.set_cons_succ]
            refine wpG_take (i := 22) (oi := { dst := some 84, op := Op.load 49 (Operand.tmp 83), type := 49, pos := "law.go:118", after := #[{ on := 21, ground := Ground.data }, { on := 18, ground := Ground.guard }], guard := some (18, false) }) (v := ?_) rfl (by kernel_rfl) (by kernel_rfl) (by kernel_rfl) (by rfl) ?_ ?_
            rotate_left
            · intro W hW; have hcW := cellDK15 x1 hW; first | (go_simp; done) | (go_simp; with_reducible rfl)
            try simp only [Act.put, List.setIfInBounds_toArray, List.set_cons_zero, List.set_cons_succ]
            refine wpG_take (i := 23) (oi := { dst := some 85, op := Op.move (Operand.tmp 9), type := 3, pos := "law.go:118", after := #[{ on := 18, ground := Ground.guard }], guard := some (18, false) }) (v := ?_) rfl (by kernel_rfl) (by kernel_rfl) (by kernel_rfl) (by rfl) ?_ ?_
            rotate_left
            · intro W hW; first | (go_simp; done) | (go_simp; with_reducible rfl)
            try simp only [Act.put, List.setIfInBounds_toArray, List.set_cons_zero, List.set_cons_succ]
            refine wpG_take (i := 24) (oi := { dst := some 86, op := Op.indexAddr 49 (Operand.tmp 84) (Operand.tmp 85), type := 0, pos := "law.go:118", after := #[{ on := 22, ground := Ground.data }, { on := 23, ground := Ground.data }, { on := 18, ground := Ground.guard }], guard := some (18, false) }) (v := ?_) rfl (by kernel_rfl) (by kernel_rfl) (by kernel_rfl) (by rfl) ?_ ?_
            rotate_left
            · intro W hW; first | (go_simp; done) | (go_simp; with_reducible rfl)
            try simp only [Act.put, List.setIfInBounds_toArray, List.set_cons_zero, List.set_cons_succ]
            refine wpG_take (i := 25) (oi := { dst := some 87, op := Op.fieldAddr 55 (Operand.tmp 86) 1, type := 0, pos := "law.go:118", after := #[{ on := 24, ground := Ground.data }, { on := 18, ground := Ground.guard }], guard := some (18, false) }) (v := ?_) rfl (by kernel_rfl) (by kernel_rfl) (by kernel_rfl) (by rfl) ?_ ?_
            rotate_left
            · intro W hW; first | (go_simp; done) | (go_simp; with_reducible rfl)
            try simp only [Act.put, List.setIfInBounds_toArray, List.set_cons_zero, List.set_cons_succ]
            refine wpG_take (i := 26) (oi := { dst := some 88, op := Op.load 53 (Operand.tmp 87), type := 53, pos := "law.go:118", after := #[{ on := 25, ground := Ground.data }, { on := 18, ground := Ground.guard }], guard := some (18, false) }) (v := ?_) rfl (by kernel_rfl) (by kernel_rfl) (by kernel_rfl) (by rfl) ?_ ?_
            rotate_left
            · intro W hW; have hcW := cellDK15 k2 hW; first | (go_simp; done) | (go_simp; with_reducible rfl)
            try simp only [Act.put, List.setIfInBounds_toArray, List.set_cons_zero, List.set_cons_succ]
            refine wpG_take (i := 27) (oi := { dst := some 89, op := Op.move (Operand.tmp 7), type := 46, pos := "law.go:118", after := #[{ on := 18, ground := Ground.guard }], guard := some (18, false) }) (v := ?_) rfl (by kernel_rfl) (by kernel_rfl) (by kernel_rfl) (by rfl) ?_ ?_
            rotate_left
            · intro W hW; first | (go_simp; done) | (go_simp; with_reducible rfl)
            try simp only [Act.put, List.setIfInBounds_toArray, List.set_cons_zero, List.set_cons_succ]
            refine wpG_take (i := 28) (oi := { dst := some 90, op := Op.move (Operand.tmp 8), type := 3, pos := "law.go:118", after := #[{ on := 18, ground := Ground.guard }], guard := some (18, false) }) (v := ?_) rfl (by kernel_rfl) (by kernel_rfl) (by kernel_rfl) (by rfl) ?_ ?_
            rotate_left
            · intro W hW; first | (go_simp; done) | (go_simp; with_reducible rfl)
            try simp only [Act.put, List.setIfInBounds_toArray, List.set_cons_zero, List.set_cons_succ]
            refine wpG_take (i := 29) (oi := { dst := some 91, op := Op.indexAddr 46 (Operand.tmp 89) (Operand.tmp 90), type := 0, pos := "law.go:118", after := #[{ on := 27, ground := Ground.data }, { on := 28, ground := Ground.data }, { on := 18, ground := Ground.guard }], guard := some (18, false) }) (v := ?_) rfl (by kernel_rfl) (by kernel_rfl) (by kernel_rfl) (by rfl) ?_ ?_
            rotate_left
            · intro W hW; first | (go_simp; done) | (go_simp; with_reducible rfl)
            try simp only [Act.put, List.setIfInBounds_toArray, List.set_cons_zero, List.set_cons_succ]
            refine wpG_take (i := 30) (oi := { dst := some 92, op := Op.fieldAddr 52 (Operand.tmp 91) 1, type := 0, pos := "law.go:118", after := #[{ on := 29, ground := Ground.data }, { on := 18, ground := Ground.guard }], guard := some (18, false) }) (v := ?_) rfl (by kernel_rfl) (by kernel_rfl) (by kernel_rfl) (by rfl) ?_ ?_
            rotate_left
            · intro W hW; first | (go_simp; done) | (go_simp; with_reducible rfl)
            try simp only [Act.put, List.setIfInBounds_toArray, List.set_cons_zero, List.set_cons_succ]
            refine wpG_take (i := 31) (oi := { dst := some 93, op := Op.load 50 (Operand.tmp 92), type := 50, pos := "law.go:118", after := #[{ on := 30, ground := Ground.data }, { on := 18, ground := Ground.guard }], guard := some (18, false) }) (v := ?_) rfl (by kernel_rfl) (by kernel_rfl) (by kernel_rfl) (by rfl) ?_ ?_
            rotate_left
            · intro W hW; have hcW := cellDK15 y1 hW; first | (go_simp; done) | (go_simp; with_reducible rfl)
            try simp only [Act.put, List.setIfInBounds_toArray, List.set_cons_zero, List.set_cons_succ]
            refine wpG_take (i := 32) (oi := { dst := some 94, op := Op.move (Operand.tmp 9), type := 3, pos := "law.go:118", after := #[{ on := 18, ground := Ground.guard }], guard := some (18, false) }) (v := ?_) rfl (by kernel_rfl) (by kernel_rfl) (by kernel_rfl) (by rfl) ?_ ?_
            rotate_left
            · intro W hW; first | (go_simp; done) | (go_simp; with_reducible rfl)
            try simp only [Act.put, List.setIfInBounds_toArray, List.set_cons_zero, List.set_cons_succ]
            refine wpG_take (i := 33) (oi := { dst := some 95, op := Op.indexAddr 50 (Operand.tmp 93) (Operand.tmp 94), type := 0, pos := "law.go:118", after := #[{ on := 31, ground := Ground.data }, { on := 32, ground := Ground.data }, { on := 18, ground := Ground.guard }], guard := some (18, false) }) (v := ?_) rfl (by kernel_rfl) (by kernel_rfl) (by kernel_rfl) (by rfl) ?_ ?_
            rotate_left
            · intro W hW; first | (go_simp; done) | (go_simp; with_reducible rfl)
            try simp only [Act.put, List.setIfInBounds_toArray, List.set_cons_zero, List.set_cons_succ]
            refine wpG_take (i := 34) (oi := { dst := some 96, op := Op.fieldAddr 57 (Operand.tmp 95) 1, type := 0, pos := "law.go:118", after := #[{ on := 33, ground := Ground.data }, { on := 18, ground := Ground.guard }], guard := some (18, false) }) (v := ?_) rfl (by kernel_rfl) (by kernel_rfl) (by kernel_rfl) (by rfl) ?_ ?_
            rotate_left
            · intro W hW; first | (go_simp; done) | (go_simp; with_reducible rfl)
            try simp only [Act.put, List.setIfInBounds_toArray, List.set_cons_zero, List.set_cons_succ]
            refine wpG_take (i := 35) (oi := { dst := some 97, op := Op.load 3 (Operand.tmp 96), type := 3, pos := "law.go:118", after := #[{ on := 34, ground := Ground.data }, { on := 18, ground := Ground.guard }], guard := some (18, false) }) (v := ?_) rfl (by kernel_rfl) (by kernel_rfl) (by kernel_rfl) (by rfl) ?_ ?_
            rotate_left
            · intro W hW; have hcW := cellDK15 k4 hW; first | (go_simp; done) | (go_simp; with_reducible rfl)
            try simp only [Act.put, List.setIfInBounds_toArray, List.set_cons_zero, List.set_cons_succ]
            refine wpG_take (i := 36) (oi := { dst := some 98, op := Op.binOp BinOp.neq 3 (Operand.tmp 88) (Operand.tmp 97) 3, type := 4, pos := "law.go:118", after := #[{ on := 26, ground := Ground.data }, { on := 35, ground := Ground.data }, { on := 18, ground := Ground.guard }], guard := some (18, false) }) (v := ?_) rfl (by kernel_rfl) (by kernel_rfl) (by kernel_rfl) (by rfl) ?_ ?_
            rotate_left
            · intro W hW; first | (go_simp; done) | (go_simp; with_reducible rfl)
            try simp only [Act.put, List.setIfInBounds_toArray, List.set_cons_zero, List.set_cons_succ]
            refine wpG_take (i := 37) (oi := { dst := some 99, op := Op.pick (Operand.tmp 80) (Operand.const (Value.bool true)) (Operand.tmp 98), type := 4, pos := "law.go:118", after := #[{ on := 18, ground := Ground.data }, { on := 36, ground := Ground.data }], guard := none }) (v := ?_) rfl (by kernel_rfl) (by kernel_rfl) (by kernel_rfl) (by rfl) ?_ ?_
            rotate_left
            · intro W hW; first | (go_simp; done) | (go_simp; with_reducible rfl)
            try simp only [Act.put, List.setIfInBounds_toArray, List.set_cons_zero, List.set_cons_succ]
            refine wpG_done (by kernel_rfl) ?_
            go_wp2
            go_roundw
            case rel => exact ⟨j + 1, by omega, by go_num, hbj.drew⟩
            case measure => simp [intOf] <;> omega
          · have hd2 : decide ((j : Int) < (m : Int)) = false := decide_eq_false (by omega)
            have hjI : (m : Int) ≤ (j : Int) := by omega
            go_wp2
            go_roundw
            case rel => exact ⟨i + 1, by omega, by go_num, hbj⟩
            case measure => simp [intOf] <;> omega
      · have hd : decide ((i : Int) < (n : Int)) = false := decide_eq_false (by omega)
        have hiI : (n : Int) ≤ (i : Int) := by omega
        have HE : Hid (Below w.heap.size w wr) := stepB HBw.out hbx
        go_wp2
        go_ret
        exact ⟨rfl, HE.out⟩
end Go.Proofs.YtpoibhhijidobaaGreatDoor
