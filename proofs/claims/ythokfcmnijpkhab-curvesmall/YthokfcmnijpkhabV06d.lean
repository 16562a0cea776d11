/- What adds the two points of a pair: a contract of package curve, fourth part. -/
import Derived.Test.YthokfcmnijpkhabV06b
namespace Go.Proofs.Ythokfcmnijpkhab
open Go.ChangeShapes Go.WideShapes Go.ChangeAt Go.RowKit
set_option linter.unusedSimpArgs false
set_option linter.unusedVariables false

/-- Two points that differ by a point, added, as a fraction. -/
def smS (x z s t : FF) : FF := ((x + z) * (s - t) + (x - z) * (s + t)) * ((x + z) * (s - t) + (x - z) * (s + t))
def smT (u x z s t : FF) : FF := u * (((x + z) * (s - t) - (x - z) * (s + t)) * ((x + z) * (s - t) - (x - z) * (s + t)))

set_option maxRecDepth 100000 in
set_option maxHeartbeats 8000000 in
theorem sum_any (P : Array Value) (a b c d : List Nat) (ha : El4 a) (hb : El4 b) (hc : El4 c) (hd : El4 d) (hP : P = (prC a b c d).toArray) (U : Array Value) (u : List Nat) (hu : El4 u) (hU : U = (cE u).toArray) (w : World) :
    Calls Try.prog 25 #[.agg P, .agg U] w fun e w' => ∃ s t : List Nat, e = .returned (.agg (frC s t).toArray) ∧ El4 s ∧ El4 t ∧ gv s = smS (gv a) (gv b) (gv c) (gv d) ∧ gv t = smT (gv u) (gv a) (gv b) (gv c) (gv d) ∧ Below w.heap.size w w' := by
  go_enter Try.func25, Try.ntmps25
  go_wp2_with (refine wpList_box_blk rfl 43 _ rfl (prC a b c d) (by rw [← hP]; rfl) ?_)
  intro w1 r1 b1 s1
  go_wp2_with (refine wpList_box_blk rfl 33 _ rfl (cE u) (by rw [← hU]; rfl) ?_)
  intro w2 ru b2 s2
  go_wp2_with (refine wpList_alloc_blk rfl 41 rfl (frC z4 z4) (allocF _) ?_)
  intro w3 r2 b3 s3
  replace r1 := (r1.kept b2).kept b3
  replace ru := ru.kept b3
  have hbw := stepB (stepB b1 b2) b3
  have n1 : w.heap.size < w1.heap.size := by have := s1.out; omega
  have n2 : w1.heap.size < w2.heap.size := by have := s2.out; omega
  clear b1 b2 b3 s1 s2 s3 hP hU
  go_upto_region 1 with fail
  go_cut [5] (fun v wx => ∃ (g : Nat) (l : List Nat), v = .pointer (some ⟨g, 0, none⟩) ∧ w3.heap.size ≤ g ∧ Hid (El4 l) ∧ Hid (gv l = (gv a + gv b) * (gv c - gv d)) ∧ BlkAt g 33 (cE l) wx ∧ Below w3.heap.size w3 wx)
  case first =>
    have hB : Below w3.heap.size w3 w3.drew := (Below.refl _ _).drew
    refine wpB_begin (Below.refl w3.heap.size w3) (by kernel_rfl) ?_
    refine wpB_take (hb := hB) (i := 0) (oi := { dst := some 7, op := Op.fieldAddr 43 (Operand.tmp 2) 0, type := 0, pos := "curve.go:53", after := #[], guard := none }) (v := ?_) rfl (by kernel_rfl) (by kernel_rfl) (by kernel_rfl) (by rfl) ?_ ?_
    rotate_left
    · intro W hW; first | (go_simp; done) | (go_simp; with_reducible rfl)
    try simp only [Act.put, List.setIfInBounds_toArray, List.set_cons_zero, List.set_cons_succ]
    refine wpB_take (hb := hB) (i := 1) (oi := { dst := some 8, op := Op.fieldAddr 41 (Operand.tmp 7) 0, type := 0, pos := "curve.go:53", after := #[{ on := 0, ground := Ground.data }], guard := none }) (v := ?_) rfl (by kernel_rfl) (by kernel_rfl) (by kernel_rfl) (by rfl) ?_ ?_
    rotate_left
    · intro W hW; first | (go_simp; done) | (go_simp; with_reducible rfl)
    try simp only [Act.put, List.setIfInBounds_toArray, List.set_cons_zero, List.set_cons_succ]
    refine wpB_take (hb := hB) (i := 2) (oi := { dst := some 9, op := Op.load 33 (Operand.tmp 8), type := 33, pos := "curve.go:53", after := #[{ on := 1, ground := Ground.data }], guard := none }) (v := ?_) rfl (by kernel_rfl) (by kernel_rfl) (by kernel_rfl) (by rfl) ?_ ?_
    rotate_left
    · intro W hW; refine Eq.trans (exec_load_part 33 _ (by rfl) (by rfl) ([] : List Value) (cE a) (cE b ++ (cE c ++ cE d)) r1 hW (parts1 _ _ _ _) rfl Try.underlying33 rfl (infE ha)) ?_; with_reducible rfl
    try simp only [Act.put, List.setIfInBounds_toArray, List.set_cons_zero, List.set_cons_succ]
    refine wpB_take (hb := hB) (i := 3) (oi := { dst := some 10, op := Op.fieldAddr 43 (Operand.tmp 2) 0, type := 0, pos := "curve.go:53", after := #[], guard := none }) (v := ?_) rfl (by kernel_rfl) (by kernel_rfl) (by kernel_rfl) (by rfl) ?_ ?_
    rotate_left
    · intro W hW; first | (go_simp; done) | (go_simp; with_reducible rfl)
    try simp only [Act.put, List.setIfInBounds_toArray, List.set_cons_zero, List.set_cons_succ]
    refine wpB_take (hb := hB) (i := 4) (oi := { dst := some 11, op := Op.fieldAddr 41 (Operand.tmp 10) 1, type := 0, pos := "curve.go:53", after := #[{ on := 3, ground := Ground.data }], guard := none }) (v := ?_) rfl (by kernel_rfl) (by kernel_rfl) (by kernel_rfl) (by rfl) ?_ ?_
    rotate_left
    · intro W hW; first | (go_simp; done) | (go_simp; with_reducible rfl)
    try simp only [Act.put, List.setIfInBounds_toArray, List.set_cons_zero, List.set_cons_succ]
    refine wpB_take (hb := hB) (i := 5) (oi := { dst := some 12, op := Op.load 33 (Operand.tmp 11), type := 33, pos := "curve.go:53", after := #[{ on := 4, ground := Ground.data }], guard := none }) (v := ?_) rfl (by kernel_rfl) (by kernel_rfl) (by kernel_rfl) (by rfl) ?_ ?_
    rotate_left
    · intro W hW; refine Eq.trans (exec_load_part 33 _ (by rfl) (by rfl) (cE a) (cE b) (cE c ++ cE d) r1 hW (parts2 _ _ _ _) (cE_len ha) Try.underlying33 rfl (infE hb)) ?_; with_reducible rfl
    try simp only [Act.put, List.setIfInBounds_toArray, List.set_cons_zero, List.set_cons_succ]
    refine wpB_take (hb := hB) (i := 7) (oi := { dst := some 14, op := Op.fieldAddr 43 (Operand.tmp 2) 1, type := 0, pos := "curve.go:53", after := #[], guard := none }) (v := ?_) rfl (by kernel_rfl) (by kernel_rfl) (by kernel_rfl) (by rfl) ?_ ?_
    rotate_left
    · intro W hW; first | (go_simp; done) | (go_simp; with_reducible rfl)
    try simp only [Act.put, List.setIfInBounds_toArray, List.set_cons_zero, List.set_cons_succ]
    refine wpB_take (hb := hB) (i := 8) (oi := { dst := some 15, op := Op.fieldAddr 41 (Operand.tmp 14) 0, type := 0, pos := "curve.go:53", after := #[{ on := 7, ground := Ground.data }], guard := none }) (v := ?_) rfl (by kernel_rfl) (by kernel_rfl) (by kernel_rfl) (by rfl) ?_ ?_
    rotate_left
    · intro W hW; first | (go_simp; done) | (go_simp; with_reducible rfl)
    try simp only [Act.put, List.setIfInBounds_toArray, List.set_cons_zero, List.set_cons_succ]
    refine wpB_take (hb := hB) (i := 9) (oi := { dst := some 16, op := Op.load 33 (Operand.tmp 15), type := 33, pos := "curve.go:53", after := #[{ on := 8, ground := Ground.data }], guard := none }) (v := ?_) rfl (by kernel_rfl) (by kernel_rfl) (by kernel_rfl) (by rfl) ?_ ?_
    rotate_left
    · intro W hW; refine Eq.trans (exec_load_part 33 _ (by rfl) (by rfl) (frC a b) (cE c) (cE d) r1 hW (parts3 _ _ _ _) (frC_len ha hb) Try.underlying33 rfl (infE hc)) ?_; with_reducible rfl
    try simp only [Act.put, List.setIfInBounds_toArray, List.set_cons_zero, List.set_cons_succ]
    refine wpB_take (hb := hB) (i := 10) (oi := { dst := some 17, op := Op.fieldAddr 43 (Operand.tmp 2) 1, type := 0, pos := "curve.go:53", after := #[], guard := none }) (v := ?_) rfl (by kernel_rfl) (by kernel_rfl) (by kernel_rfl) (by rfl) ?_ ?_
    rotate_left
    · intro W hW; first | (go_simp; done) | (go_simp; with_reducible rfl)
    try simp only [Act.put, List.setIfInBounds_toArray, List.set_cons_zero, List.set_cons_succ]
    refine wpB_take (hb := hB) (i := 11) (oi := { dst := some 18, op := Op.fieldAddr 41 (Operand.tmp 17) 1, type := 0, pos := "curve.go:53", after := #[{ on := 10, ground := Ground.data }], guard := none }) (v := ?_) rfl (by kernel_rfl) (by kernel_rfl) (by kernel_rfl) (by rfl) ?_ ?_
    rotate_left
    · intro W hW; first | (go_simp; done) | (go_simp; with_reducible rfl)
    try simp only [Act.put, List.setIfInBounds_toArray, List.set_cons_zero, List.set_cons_succ]
    refine wpB_take (hb := hB) (i := 12) (oi := { dst := some 19, op := Op.load 33 (Operand.tmp 18), type := 33, pos := "curve.go:53", after := #[{ on := 11, ground := Ground.data }], guard := none }) (v := ?_) rfl (by kernel_rfl) (by kernel_rfl) (by kernel_rfl) (by rfl) ?_ ?_
    rotate_left
    · intro W hW; refine Eq.trans (exec_load_part 33 _ (by rfl) (by rfl) (frC a b ++ cE c) (cE d) [] r1 hW (parts4 _ _ _ _) (by rw [List.length_append, frC_len ha hb, cE_len hc]) Try.underlying33 rfl (infE hd)) ?_; with_reducible rfl
    try simp only [Act.put, List.setIfInBounds_toArray, List.set_cons_zero, List.set_cons_succ]
    refine wpB_fork (i := 6) (j := 15) (oi := { dst := some 13, op := Op.call { callee := Callee.value (Operand.func 32), args := #[Operand.tmp 9, Operand.tmp 12], argTypes := #[33, 33] }, type := 33, pos := "curve.go:53", after := #[{ on := 2, ground := Ground.data }, { on := 5, ground := Ground.data }], guard := none }) (oj := { dst := some 5, op := Op.alloc 33, type := 0, pos := "curve.go:53", after := #[], guard := none }) (by kernel_rfl) rfl rfl (by rfl) (by rfl) (fun K hK => ?_) (fun K hK => ?_)
    · go_simp
      refine (gadd_any _ _ a b ha hb rfl rfl _).mono ?_
      rintro e wq ⟨lq, rfl, hq, vq, bq⟩
      replace hB := stepB hB bq
      try replace hG := hG.kept bq
      refine hK.out _ _ hB ?_
      clear hK K
      try simp only [Act.put, List.setIfInBounds_toArray, List.set_cons_zero, List.set_cons_succ]
      refine wpB_fork (i := 13) (j := 15) (oi := { dst := some 20, op := Op.call { callee := Callee.value (Operand.func 33), args := #[Operand.tmp 16, Operand.tmp 19], argTypes := #[33, 33] }, type := 33, pos := "curve.go:53", after := #[{ on := 9, ground := Ground.data }, { on := 12, ground := Ground.data }, { on := 6, ground := Ground.chain }], guard := none }) (oj := { dst := some 5, op := Op.alloc 33, type := 0, pos := "curve.go:53", after := #[], guard := none }) (by kernel_rfl) rfl rfl (by rfl) (by rfl) (fun K hK => ?_) (fun K hK => ?_)
      · go_simp
        refine (gsub_any _ _ c d hc hd rfl rfl _).mono ?_
        rintro e wp ⟨lp, rfl, hp, vp, bp⟩
        replace hB := stepB hB bp
        try replace hG := hG.kept bp
        refine hK.out _ _ hB ?_
        clear hK K
        try simp only [Act.put, List.setIfInBounds_toArray, List.set_cons_zero, List.set_cons_succ]
        refine wpB_fork (i := 14) (j := 15) (oi := { dst := some 21, op := Op.call { callee := Callee.value (Operand.func 26), args := #[Operand.tmp 13, Operand.tmp 20], argTypes := #[33, 33] }, type := 33, pos := "curve.go:53", after := #[{ on := 6, ground := Ground.data }, { on := 13, ground := Ground.data }, { on := 13, ground := Ground.chain }], guard := none }) (oj := { dst := some 5, op := Op.alloc 33, type := 0, pos := "curve.go:53", after := #[], guard := none }) (by kernel_rfl) rfl rfl (by rfl) (by rfl) (fun K hK => ?_) (fun K hK => ?_)
        · go_simp
          refine (gmul_any _ _ lq lp hq hp rfl rfl _).mono ?_
          rintro e wm ⟨lm, rfl, hm, vm, bm⟩
          rw [vq, vp] at vm
          replace hB := stepB hB bm
          try replace hG := hG.kept bm
          refine hK.out _ _ hB ?_
          clear hK K
          try simp only [Act.put, List.setIfInBounds_toArray, List.set_cons_zero, List.set_cons_succ]
          refine wpB_do (i := 15) (o := { dst := some 5, op := Op.alloc 33, type := 0, pos := "curve.go:53", after := #[], guard := none }) (by kernel_rfl) rfl (by rfl) fun K hK => ?_
          refine wp_alloc_blk hB 33 rfl (cE z4) (allocE _) ?_
          intro g wA hG hge hBA
          replace hB := hBA
          refine hK.out _ _ hB ?_
          clear hK K
          try simp only [Act.put, List.setIfInBounds_toArray, List.set_cons_zero, List.set_cons_succ]
          refine wpB_do (i := 16) (o := { dst := none, op := Op.store 33 (Operand.tmp 5) (Operand.tmp 21), type := 0, pos := "curve.go:53", after := #[{ on := 15, ground := Ground.data }, { on := 14, ground := Ground.data }, { on := 14, ground := Ground.chain }, { on := 0, ground := Ground.phase }, { on := 1, ground := Ground.phase }, { on := 2, ground := Ground.phase }, { on := 3, ground := Ground.phase }, { on := 4, ground := Ground.phase }, { on := 5, ground := Ground.phase }, { on := 6, ground := Ground.phase }, { on := 7, ground := Ground.phase }, { on := 8, ground := Ground.phase }, { on := 9, ground := Ground.phase }, { on := 10, ground := Ground.phase }, { on := 11, ground := Ground.phase }, { on := 12, ground := Ground.phase }, { on := 13, ground := Ground.phase }, { on := 14, ground := Ground.phase }, { on := 15, ground := Ground.phase }], guard := none }) (by kernel_rfl) rfl (by rfl) fun K hK => ?_
          refine wp_store_part 33 _ _ rfl rfl (cE lm) rfl [] (cE z4) [] (cE lm) hG (whole1 _) (whole1 _) rfl (by rw [cE_len hm, cE_len z4_el]) (infE z4_el) (cE_all _) ?_
          intro wS hGS hwS
          replace hB := hwS.below _ _ hge hB
          refine hK.out _ _ hB ?_
          clear hK K
          try simp only [Act.put, List.setIfInBounds_toArray, List.set_cons_zero, List.set_cons_succ]
          refine wpB_done (by kernel_rfl) ?_
          go_wp2_with fail
          go_meet
          exact ⟨g, lm, rfl, hge, hm, vm, hGS, hB⟩
        · refine wp_alloc_blk hB 33 rfl (cE z4) (allocE _) ?_
          intro g wA hG hge hBA
          replace hB := hBA
          refine hK.out _ _ hB ?_
          clear hK K
          try simp only [Act.put, List.setIfInBounds_toArray, List.set_cons_zero, List.set_cons_succ]
          refine wpB_do (i := 14) (o := { dst := some 21, op := Op.call { callee := Callee.value (Operand.func 26), args := #[Operand.tmp 13, Operand.tmp 20], argTypes := #[33, 33] }, type := 33, pos := "curve.go:53", after := #[{ on := 6, ground := Ground.data }, { on := 13, ground := Ground.data }, { on := 13, ground := Ground.chain }], guard := none }) (by kernel_rfl) rfl (by rfl) fun K hK => ?_
          go_simp
          refine (gmul_any _ _ lq lp hq hp rfl rfl _).mono ?_
          rintro e wm ⟨lm, rfl, hm, vm, bm⟩
          rw [vq, vp] at vm
          replace hB := stepB hB bm
          try replace hG := hG.kept bm
          refine hK.out _ _ hB ?_
          clear hK K
          try simp only [Act.put, List.setIfInBounds_toArray, List.set_cons_zero, List.set_cons_succ]
          refine wpB_do (i := 16) (o := { dst := none, op := Op.store 33 (Operand.tmp 5) (Operand.tmp 21), type := 0, pos := "curve.go:53", after := #[{ on := 15, ground := Ground.data }, { on := 14, ground := Ground.data }, { on := 14, ground := Ground.chain }, { on := 0, ground := Ground.phase }, { on := 1, ground := Ground.phase }, { on := 2, ground := Ground.phase }, { on := 3, ground := Ground.phase }, { on := 4, ground := Ground.phase }, { on := 5, ground := Ground.phase }, { on := 6, ground := Ground.phase }, { on := 7, ground := Ground.phase }, { on := 8, ground := Ground.phase }, { on := 9, ground := Ground.phase }, { on := 10, ground := Ground.phase }, { on := 11, ground := Ground.phase }, { on := 12, ground := Ground.phase }, { on := 13, ground := Ground.phase }, { on := 14, ground := Ground.phase }, { on := 15, ground := Ground.phase }], guard := none }) (by kernel_rfl) rfl (by rfl) fun K hK => ?_
          refine wp_store_part 33 _ _ rfl rfl (cE lm) rfl [] (cE z4) [] (cE lm) hG (whole1 _) (whole1 _) rfl (by rw [cE_len hm, cE_len z4_el]) (infE z4_el) (cE_all _) ?_
          intro wS hGS hwS
          replace hB := hwS.below _ _ hge hB
          refine hK.out _ _ hB ?_
          clear hK K
          try simp only [Act.put, List.setIfInBounds_toArray, List.set_cons_zero, List.set_cons_succ]
          refine wpB_done (by kernel_rfl) ?_
          go_wp2_with fail
          go_meet
          exact ⟨g, lm, rfl, hge, hm, vm, hGS, hB⟩
      · refine wp_alloc_blk hB 33 rfl (cE z4) (allocE _) ?_
        intro g wA hG hge hBA
        replace hB := hBA
        refine hK.out _ _ hB ?_
        clear hK K
        try simp only [Act.put, List.setIfInBounds_toArray, List.set_cons_zero, List.set_cons_succ]
        refine wpB_do (i := 13) (o := { dst := some 20, op := Op.call { callee := Callee.value (Operand.func 33), args := #[Operand.tmp 16, Operand.tmp 19], argTypes := #[33, 33] }, type := 33, pos := "curve.go:53", after := #[{ on := 9, ground := Ground.data }, { on := 12, ground := Ground.data }, { on := 6, ground := Ground.chain }], guard := none }) (by kernel_rfl) rfl (by rfl) fun K hK => ?_
        go_simp
        refine (gsub_any _ _ c d hc hd rfl rfl _).mono ?_
        rintro e wp ⟨lp, rfl, hp, vp, bp⟩
        replace hB := stepB hB bp
        try replace hG := hG.kept bp
        refine hK.out _ _ hB ?_
        clear hK K
        try simp only [Act.put, List.setIfInBounds_toArray, List.set_cons_zero, List.set_cons_succ]
        refine wpB_do (i := 14) (o := { dst := some 21, op := Op.call { callee := Callee.value (Operand.func 26), args := #[Operand.tmp 13, Operand.tmp 20], argTypes := #[33, 33] }, type := 33, pos := "curve.go:53", after := #[{ on := 6, ground := Ground.data }, { on := 13, ground := Ground.data }, { on := 13, ground := Ground.chain }], guard := none }) (by kernel_rfl) rfl (by rfl) fun K hK => ?_
        go_simp
        refine (gmul_any _ _ lq lp hq hp rfl rfl _).mono ?_
        rintro e wm ⟨lm, rfl, hm, vm, bm⟩
        rw [vq, vp] at vm
        replace hB := stepB hB bm
        try replace hG := hG.kept bm
        refine hK.out _ _ hB ?_
        clear hK K
        try simp only [Act.put, List.setIfInBounds_toArray, List.set_cons_zero, List.set_cons_succ]
        refine wpB_do (i := 16) (o := { dst := none, op := Op.store 33 (Operand.tmp 5) (Operand.tmp 21), type := 0, pos := "curve.go:53", after := #[{ on := 15, ground := Ground.data }, { on := 14, ground := Ground.data }, { on := 14, ground := Ground.chain }, { on := 0, ground := Ground.phase }, { on := 1, ground := Ground.phase }, { on := 2, ground := Ground.phase }, { on := 3, ground := Ground.phase }, { on := 4, ground := Ground.phase }, { on := 5, ground := Ground.phase }, { on := 6, ground := Ground.phase }, { on := 7, ground := Ground.phase }, { on := 8, ground := Ground.phase }, { on := 9, ground := Ground.phase }, { on := 10, ground := Ground.phase }, { on := 11, ground := Ground.phase }, { on := 12, ground := Ground.phase }, { on := 13, ground := Ground.phase }, { on := 14, ground := Ground.phase }, { on := 15, ground := Ground.phase }], guard := none }) (by kernel_rfl) rfl (by rfl) fun K hK => ?_
        refine wp_store_part 33 _ _ rfl rfl (cE lm) rfl [] (cE z4) [] (cE lm) hG (whole1 _) (whole1 _) rfl (by rw [cE_len hm, cE_len z4_el]) (infE z4_el) (cE_all _) ?_
        intro wS hGS hwS
        replace hB := hwS.below _ _ hge hB
        refine hK.out _ _ hB ?_
        clear hK K
        try simp only [Act.put, List.setIfInBounds_toArray, List.set_cons_zero, List.set_cons_succ]
        refine wpB_done (by kernel_rfl) ?_
        go_wp2_with fail
        go_meet
        exact ⟨g, lm, rfl, hge, hm, vm, hGS, hB⟩
    · refine wp_alloc_blk hB 33 rfl (cE z4) (allocE _) ?_
      intro g wA hG hge hBA
      replace hB := hBA
      refine hK.out _ _ hB ?_
      clear hK K
      try simp only [Act.put, List.setIfInBounds_toArray, List.set_cons_zero, List.set_cons_succ]
      refine wpB_do (i := 6) (o := { dst := some 13, op := Op.call { callee := Callee.value (Operand.func 32), args := #[Operand.tmp 9, Operand.tmp 12], argTypes := #[33, 33] }, type := 33, pos := "curve.go:53", after := #[{ on := 2, ground := Ground.data }, { on := 5, ground := Ground.data }], guard := none }) (by kernel_rfl) rfl (by rfl) fun K hK => ?_
      go_simp
      refine (gadd_any _ _ a b ha hb rfl rfl _).mono ?_
      rintro e wq ⟨lq, rfl, hq, vq, bq⟩
      replace hB := stepB hB bq
      try replace hG := hG.kept bq
      refine hK.out _ _ hB ?_
      clear hK K
      try simp only [Act.put, List.setIfInBounds_toArray, List.set_cons_zero, List.set_cons_succ]
      refine wpB_do (i := 13) (o := { dst := some 20, op := Op.call { callee := Callee.value (Operand.func 33), args := #[Operand.tmp 16, Operand.tmp 19], argTypes := #[33, 33] }, type := 33, pos := "curve.go:53", after := #[{ on := 9, ground := Ground.data }, { on := 12, ground := Ground.data }, { on := 6, ground := Ground.chain }], guard := none }) (by kernel_rfl) rfl (by rfl) fun K hK => ?_
      go_simp
      refine (gsub_any _ _ c d hc hd rfl rfl _).mono ?_
      rintro e wp ⟨lp, rfl, hp, vp, bp⟩
      replace hB := stepB hB bp
      try replace hG := hG.kept bp
      refine hK.out _ _ hB ?_
      clear hK K
      try simp only [Act.put, List.setIfInBounds_toArray, List.set_cons_zero, List.set_cons_succ]
      refine wpB_do (i := 14) (o := { dst := some 21, op := Op.call { callee := Callee.value (Operand.func 26), args := #[Operand.tmp 13, Operand.tmp 20], argTypes := #[33, 33] }, type := 33, pos := "curve.go:53", after := #[{ on := 6, ground := Ground.data }, { on := 13, ground := Ground.data }, { on := 13, ground := Ground.chain }], guard := none }) (by kernel_rfl) rfl (by rfl) fun K hK => ?_
      go_simp
      refine (gmul_any _ _ lq lp hq hp rfl rfl _).mono ?_
      rintro e wm ⟨lm, rfl, hm, vm, bm⟩
      rw [vq, vp] at vm
      replace hB := stepB hB bm
      try replace hG := hG.kept bm
      refine hK.out _ _ hB ?_
      clear hK K
      try simp only [Act.put, List.setIfInBounds_toArray, List.set_cons_zero, List.set_cons_succ]
      refine wpB_do (i := 16) (o := { dst := none, op := Op.store 33 (Operand.tmp 5) (Operand.tmp 21), type := 0, pos := "curve.go:53", after := #[{ on := 15, ground := Ground.data }, { on := 14, ground := Ground.data }, { on := 14, ground := Ground.chain }, { on := 0, ground := Ground.phase }, { on := 1, ground := Ground.phase }, { on := 2, ground := Ground.phase }, { on := 3, ground := Ground.phase }, { on := 4, ground := Ground.phase }, { on := 5, ground := Ground.phase }, { on := 6, ground := Ground.phase }, { on := 7, ground := Ground.phase }, { on := 8, ground := Ground.phase }, { on := 9, ground := Ground.phase }, { on := 10, ground := Ground.phase }, { on := 11, ground := Ground.phase }, { on := 12, ground := Ground.phase }, { on := 13, ground := Ground.phase }, { on := 14, ground := Ground.phase }, { on := 15, ground := Ground.phase }], guard := none }) (by kernel_rfl) rfl (by rfl) fun K hK => ?_
      refine wp_store_part 33 _ _ rfl rfl (cE lm) rfl [] (cE z4) [] (cE lm) hG (whole1 _) (whole1 _) rfl (by rw [cE_len hm, cE_len z4_el]) (infE z4_el) (cE_all _) ?_
      intro wS hGS hwS
      replace hB := hwS.below _ _ hge hB
      refine hK.out _ _ hB ?_
      clear hK K
      try simp only [Act.put, List.setIfInBounds_toArray, List.set_cons_zero, List.set_cons_succ]
      refine wpB_done (by kernel_rfl) ?_
      go_wp2_with fail
      go_meet
      exact ⟨g, lm, rfl, hge, hm, vm, hGS, hB⟩
  case rest =>
  obtain ⟨ge, le, rfl, hgee, He, Ve, re, bc⟩ := hcut
  have he := He.out
  have ve := Ve.out
  clear He Ve
  replace r1 := r1.kept bc
  replace ru := ru.kept bc
  replace r2 := r2.kept bc
  replace hbw := stepB hbw bc
  clear bc
  rename World => We
  go_upto_region 2 with fail
  go_cut [6] (fun v wx => ∃ (g : Nat) (l : List Nat), v = .pointer (some ⟨g, 0, none⟩) ∧ We.heap.size ≤ g ∧ Hid (El4 l) ∧ Hid (gv l = (gv a - gv b) * (gv c + gv d)) ∧ BlkAt g 33 (cE l) wx ∧ Below We.heap.size We wx)
  case first =>
    have hB : Below We.heap.size We We.drew := (Below.refl _ _).drew
    refine wpB_begin (Below.refl We.heap.size We) (by kernel_rfl) ?_
    refine wpB_take (hb := hB) (i := 0) (oi := { dst := some 22, op := Op.fieldAddr 43 (Operand.tmp 2) 0, type := 0, pos := "curve.go:54", after := #[], guard := none }) (v := ?_) rfl (by kernel_rfl) (by kernel_rfl) (by kernel_rfl) (by rfl) ?_ ?_
    rotate_left
    · intro W hW; first | (go_simp; done) | (go_simp; with_reducible rfl)
    try simp only [Act.put, List.setIfInBounds_toArray, List.set_cons_zero, List.set_cons_succ]
    refine wpB_take (hb := hB) (i := 1) (oi := { dst := some 23, op := Op.fieldAddr 41 (Operand.tmp 22) 0, type := 0, pos := "curve.go:54", after := #[{ on := 0, ground := Ground.data }], guard := none }) (v := ?_) rfl (by kernel_rfl) (by kernel_rfl) (by kernel_rfl) (by rfl) ?_ ?_
    rotate_left
    · intro W hW; first | (go_simp; done) | (go_simp; with_reducible rfl)
    try simp only [Act.put, List.setIfInBounds_toArray, List.set_cons_zero, List.set_cons_succ]
    refine wpB_take (hb := hB) (i := 2) (oi := { dst := some 24, op := Op.load 33 (Operand.tmp 23), type := 33, pos := "curve.go:54", after := #[{ on := 1, ground := Ground.data }], guard := none }) (v := ?_) rfl (by kernel_rfl) (by kernel_rfl) (by kernel_rfl) (by rfl) ?_ ?_
    rotate_left
    · intro W hW; refine Eq.trans (exec_load_part 33 _ (by rfl) (by rfl) ([] : List Value) (cE a) (cE b ++ (cE c ++ cE d)) r1 hW (parts1 _ _ _ _) rfl Try.underlying33 rfl (infE ha)) ?_; with_reducible rfl
    try simp only [Act.put, List.setIfInBounds_toArray, List.set_cons_zero, List.set_cons_succ]
    refine wpB_take (hb := hB) (i := 3) (oi := { dst := some 25, op := Op.fieldAddr 43 (Operand.tmp 2) 0, type := 0, pos := "curve.go:54", after := #[], guard := none }) (v := ?_) rfl (by kernel_rfl) (by kernel_rfl) (by kernel_rfl) (by rfl) ?_ ?_
    rotate_left
    · intro W hW; first | (go_simp; done) | (go_simp; with_reducible rfl)
    try simp only [Act.put, List.setIfInBounds_toArray, List.set_cons_zero, List.set_cons_succ]
    refine wpB_take (hb := hB) (i := 4) (oi := { dst := some 26, op := Op.fieldAddr 41 (Operand.tmp 25) 1, type := 0, pos := "curve.go:54", after := #[{ on := 3, ground := Ground.data }], guard := none }) (v := ?_) rfl (by kernel_rfl) (by kernel_rfl) (by kernel_rfl) (by rfl) ?_ ?_
    rotate_left
    · intro W hW; first | (go_simp; done) | (go_simp; with_reducible rfl)
    try simp only [Act.put, List.setIfInBounds_toArray, List.set_cons_zero, List.set_cons_succ]
    refine wpB_take (hb := hB) (i := 5) (oi := { dst := some 27, op := Op.load 33 (Operand.tmp 26), type := 33, pos := "curve.go:54", after := #[{ on := 4, ground := Ground.data }], guard := none }) (v := ?_) rfl (by kernel_rfl) (by kernel_rfl) (by kernel_rfl) (by rfl) ?_ ?_
    rotate_left
    · intro W hW; refine Eq.trans (exec_load_part 33 _ (by rfl) (by rfl) (cE a) (cE b) (cE c ++ cE d) r1 hW (parts2 _ _ _ _) (cE_len ha) Try.underlying33 rfl (infE hb)) ?_; with_reducible rfl
    try simp only [Act.put, List.setIfInBounds_toArray, List.set_cons_zero, List.set_cons_succ]
    refine wpB_take (hb := hB) (i := 7) (oi := { dst := some 29, op := Op.fieldAddr 43 (Operand.tmp 2) 1, type := 0, pos := "curve.go:54", after := #[], guard := none }) (v := ?_) rfl (by kernel_rfl) (by kernel_rfl) (by kernel_rfl) (by rfl) ?_ ?_
    rotate_left
    · intro W hW; first | (go_simp; done) | (go_simp; with_reducible rfl)
    try simp only [Act.put, List.setIfInBounds_toArray, List.set_cons_zero, List.set_cons_succ]
    refine wpB_take (hb := hB) (i := 8) (oi := { dst := some 30, op := Op.fieldAddr 41 (Operand.tmp 29) 0, type := 0, pos := "curve.go:54", after := #[{ on := 7, ground := Ground.data }], guard := none }) (v := ?_) rfl (by kernel_rfl) (by kernel_rfl) (by kernel_rfl) (by rfl) ?_ ?_
    rotate_left
    · intro W hW; first | (go_simp; done) | (go_simp; with_reducible rfl)
    try simp only [Act.put, List.setIfInBounds_toArray, List.set_cons_zero, List.set_cons_succ]
    refine wpB_take (hb := hB) (i := 9) (oi := { dst := some 31, op := Op.load 33 (Operand.tmp 30), type := 33, pos := "curve.go:54", after := #[{ on := 8, ground := Ground.data }], guard := none }) (v := ?_) rfl (by kernel_rfl) (by kernel_rfl) (by kernel_rfl) (by rfl) ?_ ?_
    rotate_left
    · intro W hW; refine Eq.trans (exec_load_part 33 _ (by rfl) (by rfl) (frC a b) (cE c) (cE d) r1 hW (parts3 _ _ _ _) (frC_len ha hb) Try.underlying33 rfl (infE hc)) ?_; with_reducible rfl
    try simp only [Act.put, List.setIfInBounds_toArray, List.set_cons_zero, List.set_cons_succ]
    refine wpB_take (hb := hB) (i := 10) (oi := { dst := some 32, op := Op.fieldAddr 43 (Operand.tmp 2) 1, type := 0, pos := "curve.go:54", after := #[], guard := none }) (v := ?_) rfl (by kernel_rfl) (by kernel_rfl) (by kernel_rfl) (by rfl) ?_ ?_
    rotate_left
    · intro W hW; first | (go_simp; done) | (go_simp; with_reducible rfl)
    try simp only [Act.put, List.setIfInBounds_toArray, List.set_cons_zero, List.set_cons_succ]
    refine wpB_take (hb := hB) (i := 11) (oi := { dst := some 33, op := Op.fieldAddr 41 (Operand.tmp 32) 1, type := 0, pos := "curve.go:54", after := #[{ on := 10, ground := Ground.data }], guard := none }) (v := ?_) rfl (by kernel_rfl) (by kernel_rfl) (by kernel_rfl) (by rfl) ?_ ?_
    rotate_left
    · intro W hW; first | (go_simp; done) | (go_simp; with_reducible rfl)
    try simp only [Act.put, List.setIfInBounds_toArray, List.set_cons_zero, List.set_cons_succ]
    refine wpB_take (hb := hB) (i := 12) (oi := { dst := some 34, op := Op.load 33 (Operand.tmp 33), type := 33, pos := "curve.go:54", after := #[{ on := 11, ground := Ground.data }], guard := none }) (v := ?_) rfl (by kernel_rfl) (by kernel_rfl) (by kernel_rfl) (by rfl) ?_ ?_
    rotate_left
    · intro W hW; refine Eq.trans (exec_load_part 33 _ (by rfl) (by rfl) (frC a b ++ cE c) (cE d) [] r1 hW (parts4 _ _ _ _) (by rw [List.length_append, frC_len ha hb, cE_len hc]) Try.underlying33 rfl (infE hd)) ?_; with_reducible rfl
    try simp only [Act.put, List.setIfInBounds_toArray, List.set_cons_zero, List.set_cons_succ]
    refine wpB_fork (i := 6) (j := 15) (oi := { dst := some 28, op := Op.call { callee := Callee.value (Operand.func 33), args := #[Operand.tmp 24, Operand.tmp 27], argTypes := #[33, 33] }, type := 33, pos := "curve.go:54", after := #[{ on := 2, ground := Ground.data }, { on := 5, ground := Ground.data }], guard := none }) (oj := { dst := some 6, op := Op.alloc 33, type := 0, pos := "curve.go:54", after := #[], guard := none }) (by kernel_rfl) rfl rfl (by rfl) (by rfl) (fun K hK => ?_) (fun K hK => ?_)
    · go_simp
      refine (gsub_any _ _ a b ha hb rfl rfl _).mono ?_
      rintro e wq ⟨lq, rfl, hq, vq, bq⟩
      replace hB := stepB hB bq
      try replace hG := hG.kept bq
      refine hK.out _ _ hB ?_
      clear hK K
      try simp only [Act.put, List.setIfInBounds_toArray, List.set_cons_zero, List.set_cons_succ]
      refine wpB_fork (i := 13) (j := 15) (oi := { dst := some 35, op := Op.call { callee := Callee.value (Operand.func 32), args := #[Operand.tmp 31, Operand.tmp 34], argTypes := #[33, 33] }, type := 33, pos := "curve.go:54", after := #[{ on := 9, ground := Ground.data }, { on := 12, ground := Ground.data }, { on := 6, ground := Ground.chain }], guard := none }) (oj := { dst := some 6, op := Op.alloc 33, type := 0, pos := "curve.go:54", after := #[], guard := none }) (by kernel_rfl) rfl rfl (by rfl) (by rfl) (fun K hK => ?_) (fun K hK => ?_)
      · go_simp
        refine (gadd_any _ _ c d hc hd rfl rfl _).mono ?_
        rintro e wp ⟨lp, rfl, hp, vp, bp⟩
        replace hB := stepB hB bp
        try replace hG := hG.kept bp
        refine hK.out _ _ hB ?_
        clear hK K
        try simp only [Act.put, List.setIfInBounds_toArray, List.set_cons_zero, List.set_cons_succ]
        refine wpB_fork (i := 14) (j := 15) (oi := { dst := some 36, op := Op.call { callee := Callee.value (Operand.func 26), args := #[Operand.tmp 28, Operand.tmp 35], argTypes := #[33, 33] }, type := 33, pos := "curve.go:54", after := #[{ on := 6, ground := Ground.data }, { on := 13, ground := Ground.data }, { on := 13, ground := Ground.chain }], guard := none }) (oj := { dst := some 6, op := Op.alloc 33, type := 0, pos := "curve.go:54", after := #[], guard := none }) (by kernel_rfl) rfl rfl (by rfl) (by rfl) (fun K hK => ?_) (fun K hK => ?_)
        · go_simp
          refine (gmul_any _ _ lq lp hq hp rfl rfl _).mono ?_
          rintro e wm ⟨lm, rfl, hm, vm, bm⟩
          rw [vq, vp] at vm
          replace hB := stepB hB bm
          try replace hG := hG.kept bm
          refine hK.out _ _ hB ?_
          clear hK K
          try simp only [Act.put, List.setIfInBounds_toArray, List.set_cons_zero, List.set_cons_succ]
          refine wpB_do (i := 15) (o := { dst := some 6, op := Op.alloc 33, type := 0, pos := "curve.go:54", after := #[], guard := none }) (by kernel_rfl) rfl (by rfl) fun K hK => ?_
          refine wp_alloc_blk hB 33 rfl (cE z4) (allocE _) ?_
          intro g wA hG hge hBA
          replace hB := hBA
          refine hK.out _ _ hB ?_
          clear hK K
          try simp only [Act.put, List.setIfInBounds_toArray, List.set_cons_zero, List.set_cons_succ]
          refine wpB_do (i := 16) (o := { dst := none, op := Op.store 33 (Operand.tmp 6) (Operand.tmp 36), type := 0, pos := "curve.go:54", after := #[{ on := 15, ground := Ground.data }, { on := 14, ground := Ground.data }, { on := 14, ground := Ground.chain }, { on := 0, ground := Ground.phase }, { on := 1, ground := Ground.phase }, { on := 2, ground := Ground.phase }, { on := 3, ground := Ground.phase }, { on := 4, ground := Ground.phase }, { on := 5, ground := Ground.phase }, { on := 6, ground := Ground.phase }, { on := 7, ground := Ground.phase }, { on := 8, ground := Ground.phase }, { on := 9, ground := Ground.phase }, { on := 10, ground := Ground.phase }, { on := 11, ground := Ground.phase }, { on := 12, ground := Ground.phase }, { on := 13, ground := Ground.phase }, { on := 14, ground := Ground.phase }, { on := 15, ground := Ground.phase }], guard := none }) (by kernel_rfl) rfl (by rfl) fun K hK => ?_
          refine wp_store_part 33 _ _ rfl rfl (cE lm) rfl [] (cE z4) [] (cE lm) hG (whole1 _) (whole1 _) rfl (by rw [cE_len hm, cE_len z4_el]) (infE z4_el) (cE_all _) ?_
          intro wS hGS hwS
          replace hB := hwS.below _ _ hge hB
          refine hK.out _ _ hB ?_
          clear hK K
          try simp only [Act.put, List.setIfInBounds_toArray, List.set_cons_zero, List.set_cons_succ]
          refine wpB_done (by kernel_rfl) ?_
          go_wp2_with fail
          go_meet
          exact ⟨g, lm, rfl, hge, hm, vm, hGS, hB⟩
        · refine wp_alloc_blk hB 33 rfl (cE z4) (allocE _) ?_
          intro g wA hG hge hBA
          replace hB := hBA
          refine hK.out _ _ hB ?_
          clear hK K
          try simp only [Act.put, List.setIfInBounds_toArray, List.set_cons_zero, List.set_cons_succ]
          refine wpB_do (i := 14) (o := { dst := some 36, op := Op.call { callee := Callee.value (Operand.func 26), args := #[Operand.tmp 28, Operand.tmp 35], argTypes := #[33, 33] }, type := 33, pos := "curve.go:54", after := #[{ on := 6, ground := Ground.data }, { on := 13, ground := Ground.data }, { on := 13, ground := Ground.chain }], guard := none }) (by kernel_rfl) rfl (by rfl) fun K hK => ?_
          go_simp
          refine (gmul_any _ _ lq lp hq hp rfl rfl _).mono ?_
          rintro e wm ⟨lm, rfl, hm, vm, bm⟩
          rw [vq, vp] at vm
          replace hB := stepB hB bm
          try replace hG := hG.kept bm
          refine hK.out _ _ hB ?_
          clear hK K
          try simp only [Act.put, List.setIfInBounds_toArray, List.set_cons_zero, List.set_cons_succ]
          refine wpB_do (i := 16) (o := { dst := none, op := Op.store 33 (Operand.tmp 6) (Operand.tmp 36), type := 0, pos := "curve.go:54", after := #[{ on := 15, ground := Ground.data }, { on := 14, ground := Ground.data }, { on := 14, ground := Ground.chain }, { on := 0, ground := Ground.phase }, { on := 1, ground := Ground.phase }, { on := 2, ground := Ground.phase }, { on := 3, ground := Ground.phase }, { on := 4, ground := Ground.phase }, { on := 5, ground := Ground.phase }, { on := 6, ground := Ground.phase }, { on := 7, ground := Ground.phase }, { on := 8, ground := Ground.phase }, { on := 9, ground := Ground.phase }, { on := 10, ground := Ground.phase }, { on := 11, ground := Ground.phase }, { on := 12, ground := Ground.phase }, { on := 13, ground := Ground.phase }, { on := 14, ground := Ground.phase }, { on := 15, ground := Ground.phase }], guard := none }) (by kernel_rfl) rfl (by rfl) fun K hK => ?_
          refine wp_store_part 33 _ _ rfl rfl (cE lm) rfl [] (cE z4) [] (cE lm) hG (whole1 _) (whole1 _) rfl (by rw [cE_len hm, cE_len z4_el]) (infE z4_el) (cE_all _) ?_
          intro wS hGS hwS
          replace hB := hwS.below _ _ hge hB
          refine hK.out _ _ hB ?_
          clear hK K
          try simp only [Act.put, List.setIfInBounds_toArray, List.set_cons_zero, List.set_cons_succ]
          refine wpB_done (by kernel_rfl) ?_
          go_wp2_with fail
          go_meet
          exact ⟨g, lm, rfl, hge, hm, vm, hGS, hB⟩
      · refine wp_alloc_blk hB 33 rfl (cE z4) (allocE _) ?_
        intro g wA hG hge hBA
        replace hB := hBA
        refine hK.out _ _ hB ?_
        clear hK K
        try simp only [Act.put, List.setIfInBounds_toArray, List.set_cons_zero, List.set_cons_succ]
        refine wpB_do (i := 13) (o := { dst := some 35, op := Op.call { callee := Callee.value (Operand.func 32), args := #[Operand.tmp 31, Operand.tmp 34], argTypes := #[33, 33] }, type := 33, pos := "curve.go:54", after := #[{ on := 9, ground := Ground.data }, { on := 12, ground := Ground.data }, { on := 6, ground := Ground.chain }], guard := none }) (by kernel_rfl) rfl (by rfl) fun K hK => ?_
        go_simp
        refine (gadd_any _ _ c d hc hd rfl rfl _).mono ?_
        rintro e wp ⟨lp, rfl, hp, vp, bp⟩
        replace hB := stepB hB bp
        try replace hG := hG.kept bp
        refine hK.out _ _ hB ?_
        clear hK K
        try simp only [Act.put, List.setIfInBounds_toArray, List.set_cons_zero, List.set_cons_succ]
        refine wpB_do (i := 14) (o := { dst := some 36, op := Op.call { callee := Callee.value (Operand.func 26), args := #[Operand.tmp 28, Operand.tmp 35], argTypes := #[33, 33] }, type := 33, pos := "curve.go:54", after := #[{ on := 6, ground := Ground.data }, { on := 13, ground := Ground.data }, { on := 13, ground := Ground.chain }], guard := none }) (by kernel_rfl) rfl (by rfl) fun K hK => ?_
        go_simp
        refine (gmul_any _ _ lq lp hq hp rfl rfl _).mono ?_
        rintro e wm ⟨lm, rfl, hm, vm, bm⟩
        rw [vq, vp] at vm
        replace hB := stepB hB bm
        try replace hG := hG.kept bm
        refine hK.out _ _ hB ?_
        clear hK K
        try simp only [Act.put, List.setIfInBounds_toArray, List.set_cons_zero, List.set_cons_succ]
        refine wpB_do (i := 16) (o := { dst := none, op := Op.store 33 (Operand.tmp 6) (Operand.tmp 36), type := 0, pos := "curve.go:54", after := #[{ on := 15, ground := Ground.data }, { on := 14, ground := Ground.data }, { on := 14, ground := Ground.chain }, { on := 0, ground := Ground.phase }, { on := 1, ground := Ground.phase }, { on := 2, ground := Ground.phase }, { on := 3, ground := Ground.phase }, { on := 4, ground := Ground.phase }, { on := 5, ground := Ground.phase }, { on := 6, ground := Ground.phase }, { on := 7, ground := Ground.phase }, { on := 8, ground := Ground.phase }, { on := 9, ground := Ground.phase }, { on := 10, ground := Ground.phase }, { on := 11, ground := Ground.phase }, { on := 12, ground := Ground.phase }, { on := 13, ground := Ground.phase }, { on := 14, ground := Ground.phase }, { on := 15, ground := Ground.phase }], guard := none }) (by kernel_rfl) rfl (by rfl) fun K hK => ?_
        refine wp_store_part 33 _ _ rfl rfl (cE lm) rfl [] (cE z4) [] (cE lm) hG (whole1 _) (whole1 _) rfl (by rw [cE_len hm, cE_len z4_el]) (infE z4_el) (cE_all _) ?_
        intro wS hGS hwS
        replace hB := hwS.below _ _ hge hB
        refine hK.out _ _ hB ?_
        clear hK K
        try simp only [Act.put, List.setIfInBounds_toArray, List.set_cons_zero, List.set_cons_succ]
        refine wpB_done (by kernel_rfl) ?_
        go_wp2_with fail
        go_meet
        exact ⟨g, lm, rfl, hge, hm, vm, hGS, hB⟩
    · refine wp_alloc_blk hB 33 rfl (cE z4) (allocE _) ?_
      intro g wA hG hge hBA
      replace hB := hBA
      refine hK.out _ _ hB ?_
      clear hK K
      try simp only [Act.put, List.setIfInBounds_toArray, List.set_cons_zero, List.set_cons_succ]
      refine wpB_do (i := 6) (o := { dst := some 28, op := Op.call { callee := Callee.value (Operand.func 33), args := #[Operand.tmp 24, Operand.tmp 27], argTypes := #[33, 33] }, type := 33, pos := "curve.go:54", after := #[{ on := 2, ground := Ground.data }, { on := 5, ground := Ground.data }], guard := none }) (by kernel_rfl) rfl (by rfl) fun K hK => ?_
      go_simp
      refine (gsub_any _ _ a b ha hb rfl rfl _).mono ?_
      rintro e wq ⟨lq, rfl, hq, vq, bq⟩
      replace hB := stepB hB bq
      try replace hG := hG.kept bq
      refine hK.out _ _ hB ?_
      clear hK K
      try simp only [Act.put, List.setIfInBounds_toArray, List.set_cons_zero, List.set_cons_succ]
      refine wpB_do (i := 13) (o := { dst := some 35, op := Op.call { callee := Callee.value (Operand.func 32), args := #[Operand.tmp 31, Operand.tmp 34], argTypes := #[33, 33] }, type := 33, pos := "curve.go:54", after := #[{ on := 9, ground := Ground.data }, { on := 12, ground := Ground.data }, { on := 6, ground := Ground.chain }], guard := none }) (by kernel_rfl) rfl (by rfl) fun K hK => ?_
      go_simp
      refine (gadd_any _ _ c d hc hd rfl rfl _).mono ?_
      rintro e wp ⟨lp, rfl, hp, vp, bp⟩
      replace hB := stepB hB bp
      try replace hG := hG.kept bp
      refine hK.out _ _ hB ?_
      clear hK K
      try simp only [Act.put, List.setIfInBounds_toArray, List.set_cons_zero, List.set_cons_succ]
      refine wpB_do (i := 14) (o := { dst := some 36, op := Op.call { callee := Callee.value (Operand.func 26), args := #[Operand.tmp 28, Operand.tmp 35], argTypes := #[33, 33] }, type := 33, pos := "curve.go:54", after := #[{ on := 6, ground := Ground.data }, { on := 13, ground := Ground.data }, { on := 13, ground := Ground.chain }], guard := none }) (by kernel_rfl) rfl (by rfl) fun K hK => ?_
      go_simp
      refine (gmul_any _ _ lq lp hq hp rfl rfl _).mono ?_
      rintro e wm ⟨lm, rfl, hm, vm, bm⟩
      rw [vq, vp] at vm
      replace hB := stepB hB bm
      try replace hG := hG.kept bm
      refine hK.out _ _ hB ?_
      clear hK K
      try simp only [Act.put, List.setIfInBounds_toArray, List.set_cons_zero, List.set_cons_succ]
      refine wpB_do (i := 16) (o := { dst := none, op := Op.store 33 (Operand.tmp 6) (Operand.tmp 36), type := 0, pos := "curve.go:54", after := #[{ on := 15, ground := Ground.data }, { on := 14, ground := Ground.data }, { on := 14, ground := Ground.chain }, { on := 0, ground := Ground.phase }, { on := 1, ground := Ground.phase }, { on := 2, ground := Ground.phase }, { on := 3, ground := Ground.phase }, { on := 4, ground := Ground.phase }, { on := 5, ground := Ground.phase }, { on := 6, ground := Ground.phase }, { on := 7, ground := Ground.phase }, { on := 8, ground := Ground.phase }, { on := 9, ground := Ground.phase }, { on := 10, ground := Ground.phase }, { on := 11, ground := Ground.phase }, { on := 12, ground := Ground.phase }, { on := 13, ground := Ground.phase }, { on := 14, ground := Ground.phase }, { on := 15, ground := Ground.phase }], guard := none }) (by kernel_rfl) rfl (by rfl) fun K hK => ?_
      refine wp_store_part 33 _ _ rfl rfl (cE lm) rfl [] (cE z4) [] (cE lm) hG (whole1 _) (whole1 _) rfl (by rw [cE_len hm, cE_len z4_el]) (infE z4_el) (cE_all _) ?_
      intro wS hGS hwS
      replace hB := hwS.below _ _ hge hB
      refine hK.out _ _ hB ?_
      clear hK K
      try simp only [Act.put, List.setIfInBounds_toArray, List.set_cons_zero, List.set_cons_succ]
      refine wpB_done (by kernel_rfl) ?_
      go_wp2_with fail
      go_meet
      exact ⟨g, lm, rfl, hge, hm, vm, hGS, hB⟩
  case rest =>
  obtain ⟨gf, lf, rfl, hgef, Hf, Vf, rf, bc⟩ := hcut
  have hf := Hf.out
  have vf := Vf.out
  clear Hf Vf
  replace ru := ru.kept bc
  replace r2 := r2.kept bc
  replace re := re.kept bc
  replace hbw := stepB hbw bc
  clear bc
  rename World => Wf
  replace r2 := r2.drew
  replace ru := ru.drew
  replace re := re.drew
  replace rf := rf.drew
  replace hbw := hbw.drew
  clear r1
  go_wp2_with fail
  refine wpE_begin 11 (by kernel_rfl) ?_
  refine wpE_take (i := 0) (oi := { dst := some 37, op := Op.load 33 (Operand.tmp 5), type := 33, pos := "curve.go:55", after := #[], guard := none }) (v := ?_) rfl (by decide) (by kernel_rfl) (by kernel_rfl) (by kernel_rfl) (by kernel_rfl) (by rfl) ?_ ?_
  rotate_left
  · intro W hW; refine Eq.trans (exec_load_part 33 _ (by rfl) (by rfl) [] (cE le) [] re hW (whole1 _) rfl Try.underlying33 rfl (infE he)) ?_; with_reducible rfl
  try simp only [Act.put, List.setIfInBounds_toArray, List.set_cons_zero, List.set_cons_succ]
  refine wpE_take (i := 1) (oi := { dst := some 38, op := Op.load 33 (Operand.tmp 6), type := 33, pos := "curve.go:55", after := #[], guard := none }) (v := ?_) rfl (by decide) (by kernel_rfl) (by kernel_rfl) (by kernel_rfl) (by kernel_rfl) (by rfl) ?_ ?_
  rotate_left
  · intro W hW; refine Eq.trans (exec_load_part 33 _ (by rfl) (by rfl) [] (cE lf) [] rf hW (whole1 _) rfl Try.underlying33 rfl (infE hf)) ?_; with_reducible rfl
  try simp only [Act.put, List.setIfInBounds_toArray, List.set_cons_zero, List.set_cons_succ]
  refine wpE_take (i := 4) (oi := { dst := some 41, op := Op.load 33 (Operand.tmp 3), type := 33, pos := "curve.go:55", after := #[], guard := none }) (v := ?_) rfl (by decide) (by kernel_rfl) (by kernel_rfl) (by kernel_rfl) (by kernel_rfl) (by rfl) ?_ ?_
  rotate_left
  · intro W hW; refine Eq.trans (exec_load_part 33 _ (by rfl) (by rfl) [] (cE u) [] ru hW (whole1 _) rfl Try.underlying33 rfl (infE hu)) ?_; with_reducible rfl
  try simp only [Act.put, List.setIfInBounds_toArray, List.set_cons_zero, List.set_cons_succ]
  refine wpE_take (i := 5) (oi := { dst := some 42, op := Op.load 33 (Operand.tmp 5), type := 33, pos := "curve.go:55", after := #[], guard := none }) (v := ?_) rfl (by decide) (by kernel_rfl) (by kernel_rfl) (by kernel_rfl) (by kernel_rfl) (by rfl) ?_ ?_
  rotate_left
  · intro W hW; refine Eq.trans (exec_load_part 33 _ (by rfl) (by rfl) [] (cE le) [] re hW (whole1 _) rfl Try.underlying33 rfl (infE he)) ?_; with_reducible rfl
  try simp only [Act.put, List.setIfInBounds_toArray, List.set_cons_zero, List.set_cons_succ]
  refine wpE_take (i := 6) (oi := { dst := some 43, op := Op.load 33 (Operand.tmp 6), type := 33, pos := "curve.go:55", after := #[], guard := none }) (v := ?_) rfl (by decide) (by kernel_rfl) (by kernel_rfl) (by kernel_rfl) (by kernel_rfl) (by rfl) ?_ ?_
  rotate_left
  · intro W hW; refine Eq.trans (exec_load_part 33 _ (by rfl) (by rfl) [] (cE lf) [] rf hW (whole1 _) rfl Try.underlying33 rfl (infE hf)) ?_; with_reducible rfl
  try simp only [Act.put, List.setIfInBounds_toArray, List.set_cons_zero, List.set_cons_succ]
  refine wpE_do (i := 2) (o := { dst := some 39, op := Op.call { callee := Callee.value (Operand.func 32), args := #[Operand.tmp 37, Operand.tmp 38], argTypes := #[33, 33] }, type := 33, pos := "curve.go:56", after := #[{ on := 0, ground := Ground.data }, { on := 1, ground := Ground.data }], guard := none }) (by kernel_rfl) rfl (by rfl) fun K hK => ?_
  go_simp
  refine (gadd_any _ _ le lf he hf rfl rfl _).mono ?_
  rintro e w4 ⟨p, rfl, hp, vp, b4⟩
  refine hK.out _ _ b4 ?_
  clear hK K
  replace r2 := r2.kept b4
  replace hbw := stepB hbw b4
  try simp only [Act.put, List.setIfInBounds_toArray, List.set_cons_zero, List.set_cons_succ]
  refine wpE_do (i := 3) (o := { dst := some 40, op := Op.call { callee := Callee.value (Operand.func 31), args := #[Operand.tmp 39], argTypes := #[33] }, type := 33, pos := "curve.go:56", after := #[{ on := 2, ground := Ground.data }, { on := 2, ground := Ground.chain }], guard := none }) (by kernel_rfl) rfl (by rfl) fun K hK => ?_
  go_simp
  refine (gsquare_any _ p hp rfl _).mono ?_
  rintro e w5 ⟨s, rfl, hs, vs, b5⟩
  refine hK.out _ _ b5 ?_
  clear hK K
  replace r2 := r2.kept b5
  replace hbw := stepB hbw b5
  try simp only [Act.put, List.setIfInBounds_toArray, List.set_cons_zero, List.set_cons_succ]
  refine wpE_do (i := 7) (o := { dst := some 44, op := Op.call { callee := Callee.value (Operand.func 33), args := #[Operand.tmp 42, Operand.tmp 43], argTypes := #[33, 33] }, type := 33, pos := "curve.go:57", after := #[{ on := 5, ground := Ground.data }, { on := 6, ground := Ground.data }, { on := 3, ground := Ground.chain }], guard := none }) (by kernel_rfl) rfl (by rfl) fun K hK => ?_
  go_simp
  refine (gsub_any _ _ le lf he hf rfl rfl _).mono ?_
  rintro e w6 ⟨q, rfl, hq, vq, b6⟩
  refine hK.out _ _ b6 ?_
  clear hK K
  replace r2 := r2.kept b6
  replace hbw := stepB hbw b6
  try simp only [Act.put, List.setIfInBounds_toArray, List.set_cons_zero, List.set_cons_succ]
  refine wpE_do (i := 8) (o := { dst := some 45, op := Op.call { callee := Callee.value (Operand.func 31), args := #[Operand.tmp 44], argTypes := #[33] }, type := 33, pos := "curve.go:57", after := #[{ on := 7, ground := Ground.data }, { on := 7, ground := Ground.chain }], guard := none }) (by kernel_rfl) rfl (by rfl) fun K hK => ?_
  go_simp
  refine (gsquare_any _ q hq rfl _).mono ?_
  rintro e w7 ⟨r, rfl, hr, vr, b7⟩
  refine hK.out _ _ b7 ?_
  clear hK K
  replace r2 := r2.kept b7
  replace hbw := stepB hbw b7
  try simp only [Act.put, List.setIfInBounds_toArray, List.set_cons_zero, List.set_cons_succ]
  refine wpE_do (i := 9) (o := { dst := some 46, op := Op.call { callee := Callee.value (Operand.func 26), args := #[Operand.tmp 41, Operand.tmp 45], argTypes := #[33, 33] }, type := 33, pos := "curve.go:57", after := #[{ on := 4, ground := Ground.data }, { on := 8, ground := Ground.data }, { on := 8, ground := Ground.chain }], guard := none }) (by kernel_rfl) rfl (by rfl) fun K hK => ?_
  go_simp
  refine (gmul_any _ _ u r hu hr rfl rfl _).mono ?_
  rintro e w8 ⟨t, rfl, ht, vt, b8⟩
  refine hK.out _ _ b8 ?_
  clear hK K
  replace r2 := r2.kept b8
  replace hbw := stepB hbw b8
  try simp only [Act.put, List.setIfInBounds_toArray, List.set_cons_zero, List.set_cons_succ]
  refine wpE_take (i := 10) (oi := { dst := some 47, op := Op.build 41 #[(0, Operand.tmp 40), (1, Operand.tmp 46)], type := 41, pos := "curve.go:55", after := #[{ on := 3, ground := Ground.data }, { on := 9, ground := Ground.data }], guard := none }) (v := ?_) rfl (by decide) (by kernel_rfl) (by kernel_rfl) (by kernel_rfl) (by kernel_rfl) (by rfl) ?_ ?_
  rotate_left
  · intro W hW; refine Eq.trans (exec_build 41 _ rfl #[(0, elV s), (1, elV t)] (by go_simp; done) _ (buildF hs ht _)) ?_; with_reducible rfl
  try simp only [Act.put, List.setIfInBounds_toArray, List.set_cons_zero, List.set_cons_succ]
  refine wpE_last (o := { dst := none, op := Op.store 41 (Operand.tmp 4) (Operand.tmp 47), type := 0, pos := "curve.go:55", after := #[{ on := 10, ground := Ground.data }, { on := 9, ground := Ground.chain }, { on := 0, ground := Ground.phase }, { on := 1, ground := Ground.phase }, { on := 2, ground := Ground.phase }, { on := 3, ground := Ground.phase }, { on := 4, ground := Ground.phase }, { on := 5, ground := Ground.phase }, { on := 6, ground := Ground.phase }, { on := 7, ground := Ground.phase }, { on := 8, ground := Ground.phase }, { on := 9, ground := Ground.phase }, { on := 10, ground := Ground.phase }], guard := none }) (by kernel_rfl) (by kernel_rfl) rfl (by rfl) fun K hK => ?_
  refine wp_store_part 41 _ _ rfl rfl (frC s t) rfl [] (frC z4 z4) [] (frC s t) r2 (whole1 _) (whole1 _) rfl (by rw [frC_len hs ht, frC_len z4_el z4_el]) (infF z4_el z4_el) (frC_all _ _) ?_
  intro w9 r9 hw9
  refine hK.out _ _ ?_
  clear hK K
  try simp only [Act.put, List.setIfInBounds_toArray, List.set_cons_zero, List.set_cons_succ]
  go_wp2_with fail
  refine bodyPost_blk (p := 4) (ty := 41) rfl rfl rfl r9 Try.underlying41 rfl (infF hs ht) ?_
  refine ⟨s, t, rfl, hs, ht, ?_, ?_, hw9.below _ _ (by omega) hbw⟩
  · rw [vs, vp, ve, vf]
    rfl
  · rw [vt, vr, vq, ve, vf]
    rfl
end Go.Proofs.Ythokfcmnijpkhab
