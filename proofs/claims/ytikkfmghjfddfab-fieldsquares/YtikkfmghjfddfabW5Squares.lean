/- What the law FieldSquares answers at every input: the walk. -/
import Derived.Test.YtikkfmghjfddfabF05j
namespace Go.Proofs.Ytikkfmghjfddfab
open Go.ChangeShapes Go.WideShapes Go.ChangeAt Go.RowKit
set_option linter.unusedSimpArgs false
set_option linter.unusedVariables false

theorem addm {X Y Z E F : Nat} (h : Z % pN = (X + Y) % pN) (h1 : X % pN = E % pN) (h2 : Y % pN = F % pN) : Z % pN = (E + F) % pN := by
  rw [h, Nat.add_mod, h1, h2, ← Nat.add_mod]
theorem mulm {X Y Z E F : Nat} (h : Z % pN = X * Y % pN) (h1 : X % pN = E % pN) (h2 : Y % pN = F % pN) : Z % pN = E * F % pN := by
  rw [h, Nat.mul_mod, h1, h2, ← Nat.mul_mod]
theorem cancel_mod {X Y C : Nat} (h : (X + C) % pN = (Y + C) % pN) : X % pN = Y % pN := by
  rw [pN_val] at h ⊢
  omega
theorem law_opp {Z A S T : Nat} (h : (Z + A) % pN = wv z4 % pN) (hs : S % pN = Z * Z % pN) (ht : T % pN = A * A % pN) : S % pN = T % pN := by
  rw [z4_wv] at h
  rw [hs, ht]
  refine cancel_mod (C := Z * A) ?_
  have e1 : Z * Z + Z * A = Z * (Z + A) := by rw [Nat.mul_add]
  have e2 : A * A + Z * A = (Z + A) * A := by rw [Nat.add_mul, Nat.add_comm]
  rw [e1, e2, Nat.mul_mod Z, h, Nat.mul_mod (Z + A), h]
  simp
theorem law_square (a b : Nat) : (a + b) * (a + b) % pN = (a * a + b * b + 2 * (a * b)) % pN := by
  congr 1
  rw [Nat.add_mul, Nat.mul_add, Nat.mul_add, Nat.mul_comm b a]
  omega

set_option maxRecDepth 100000 in
set_option maxHeartbeats 8000000 in
theorem squares_walk (Aa : Array Value) (a : List Nat) (ha : El4 a) (hAa : Aa = ((nI a).map (Value.int .u64)).toArray) (Ba : Array Value) (b : List Nat) (hb : El4 b) (hAb : Ba = ((nI b).map (Value.int .u64)).toArray) (w : World) :
    Calls Try.prog 5 #[.agg Aa, .agg Ba] w fun e w' => e = .returned (.bool true) ∧ Below w.heap.size w w' := by
  go_enter Try.func5, Try.ntmps5
  go_wp2_with (refine wpList_box_row (k := .u64) rfl 23 _ rfl (nI a) (by rw [← hAa]; rfl) ha.ne (elMax ha) ?_)
  intro w1 ra bn sn
  rw [ha.len] at ra
  clear sn
  have hbw := bn
  clear bn
  go_wp2_with (refine wpList_box_row (k := .u64) rfl 23 _ rfl (nI b) (by rw [← hAb]; rfl) hb.ne (elMax hb) ?_)
  intro w2 rb bn sn
  rw [hb.len] at rb
  clear sn
  replace ra := ra.kept bn
  replace hbw := stepB hbw bn
  clear bn
  go_wp2_with fail
  refine (awake_any _).mono ?_
  rintro e wa ⟨rfl, bn⟩
  replace ra := ra.kept bn
  replace rb := rb.kept bn
  replace hbw := stepB hbw bn
  clear bn
  go_wp2_with (refine wpList_load_row rfl 23 _ rfl rfl ra _ Try.underlying23 rfl (arInfo ha) ?_)
  refine (numR_any _ a ha.1 ha.2 rfl _).mono ?_
  rintro e wn ⟨vn, rfl, Rn, bn⟩
  replace ra := ra.kept bn
  replace rb := rb.kept bn
  replace hbw := stepB hbw bn
  clear bn
  go_wp2_with (first | refine wpList_load_row rfl 23 _ rfl rfl ra _ Try.underlying23 rfl (arInfo ha) ?_ | refine wpList_load_row rfl 23 _ rfl rfl rb _ Try.underlying23 rfl (arInfo hb) ?_)
  refine (fadd_any _ _ a b ha hb rfl rfl _).mono ?_
  rintro e wd ⟨xd, rfl, hxd, vxd, bn⟩
  replace ra := ra.kept bn
  replace rb := rb.kept bn
  replace Rn := Rn.kept bn
  replace hbw := stepB hbw bn
  clear bn
  go_wp2_with fail
  refine (fsquare_any _ xd hxd rfl _).mono ?_
  rintro e ws ⟨xs, rfl, hxs, vxs, bn⟩
  replace ra := ra.kept bn
  replace rb := rb.kept bn
  replace Rn := Rn.kept bn
  replace hbw := stepB hbw bn
  clear bn
  go_wp2_with (refine wpList_alloc_row (k := .u64) rfl 26 rfl (nI z4) (alloc_el _) z4_el.ne (elMax z4_el) ?_)
  intro we rd bn sn
  rw [z4_el.len] at rd
  clear sn
  go_wp2_with (refine wpList_store_row rfl 26 _ _ rfl (nI xs) rfl rfl rd (by rw [z4_el.len, hxs.len]) (elInfo z4_el) ?_)
  intro wf rxs hwf
  replace bn : Below ws.heap.size ws wf := hwf.below _ _ (Nat.le_refl _) bn
  clear rd hwf
  replace ra := ra.kept bn
  replace rb := rb.kept bn
  replace Rn := Rn.kept bn
  replace hbw := stepB hbw bn
  clear bn
  have VS : Hid (wv xs % pN = (wv a + wv b) * (wv a + wv b) % pN) := mulm vxs vxd vxd
  clear vxs vxd
  go_upto_region 6 with fail
  go_cut [8] (fun v wx => ∃ (g : Nat) (l : List Nat), v = .pointer (some ⟨g, 0, none⟩) ∧ Hid (El4 l) ∧ Hid (wv l % pN = (wv a * wv a + wv b * wv b + 2 * (wv a * wv b)) % pN) ∧ RowAt .u64 26 g 4 (nI l) wx ∧ Below wf.heap.size wf wx)
  case first =>
    have hB : Below wf.heap.size wf wf.drew := (Below.refl _ _).drew
    refine wpB_begin (Below.refl wf.heap.size wf) (by kernel_rfl) ?_
    refine wpB_take (hb := hB) (i := 0) (oi := { dst := some 18, op := Op.load 23 (Operand.tmp 2), type := 23, pos := "law.go:125", after := #[], guard := none }) (v := ?_) rfl (by kernel_rfl) (by kernel_rfl) (by kernel_rfl) (by rfl) ?_ ?_
    rotate_left
    · intro W hW; refine Eq.trans (exec_load_row' 23 _ (by rfl) (by rfl) ra hW _ Try.underlying23 rfl (arInfo ha)) ?_; with_reducible rfl
    try simp only [Act.put, List.setIfInBounds_toArray, List.set_cons_zero, List.set_cons_succ]
    refine wpB_take (hb := hB) (i := 2) (oi := { dst := some 20, op := Op.load 23 (Operand.tmp 3), type := 23, pos := "law.go:125", after := #[], guard := none }) (v := ?_) rfl (by kernel_rfl) (by kernel_rfl) (by kernel_rfl) (by rfl) ?_ ?_
    rotate_left
    · intro W hW; refine Eq.trans (exec_load_row' 23 _ (by rfl) (by rfl) rb hW _ Try.underlying23 rfl (arInfo hb)) ?_; with_reducible rfl
    try simp only [Act.put, List.setIfInBounds_toArray, List.set_cons_zero, List.set_cons_succ]
    refine wpB_take (hb := hB) (i := 5) (oi := { dst := some 23, op := Op.load 23 (Operand.tmp 2), type := 23, pos := "law.go:125", after := #[], guard := none }) (v := ?_) rfl (by kernel_rfl) (by kernel_rfl) (by kernel_rfl) (by rfl) ?_ ?_
    rotate_left
    · intro W hW; refine Eq.trans (exec_load_row' 23 _ (by rfl) (by rfl) ra hW _ Try.underlying23 rfl (arInfo ha)) ?_; with_reducible rfl
    try simp only [Act.put, List.setIfInBounds_toArray, List.set_cons_zero, List.set_cons_succ]
    refine wpB_take (hb := hB) (i := 6) (oi := { dst := some 24, op := Op.load 23 (Operand.tmp 3), type := 23, pos := "law.go:125", after := #[], guard := none }) (v := ?_) rfl (by kernel_rfl) (by kernel_rfl) (by kernel_rfl) (by rfl) ?_ ?_
    rotate_left
    · intro W hW; refine Eq.trans (exec_load_row' 23 _ (by rfl) (by rfl) rb hW _ Try.underlying23 rfl (arInfo hb)) ?_; with_reducible rfl
    try simp only [Act.put, List.setIfInBounds_toArray, List.set_cons_zero, List.set_cons_succ]
    refine wpB_fork (i := 1) (j := 10) (oi := { dst := some 19, op := Op.call { callee := Callee.value (Operand.func 17), args := #[Operand.tmp 18], argTypes := #[26] }, type := 26, pos := "law.go:125", after := #[{ on := 0, ground := Ground.data }], guard := none }) (oj := { dst := some 8, op := Op.alloc 26, type := 0, pos := "law.go:125", after := #[], guard := none }) (by kernel_rfl) rfl rfl (by rfl) (by rfl) (fun K hK => ?_) (fun K hK => ?_)
    · go_simp
      refine (fsquare_any _ a ha rfl _).mono ?_
      rintro e w6_1 ⟨x6_1, rfl, hx6_1, vx6_1, bx6_1⟩
      replace hB := stepB hB bx6_1
      try replace hG := hG.kept bx6_1
      refine hK.out _ _ hB ?_
      clear hK K
      try simp only [Act.put, List.setIfInBounds_toArray, List.set_cons_zero, List.set_cons_succ]
      refine wpB_fork (i := 3) (j := 10) (oi := { dst := some 21, op := Op.call { callee := Callee.value (Operand.func 17), args := #[Operand.tmp 20], argTypes := #[26] }, type := 26, pos := "law.go:125", after := #[{ on := 2, ground := Ground.data }, { on := 1, ground := Ground.chain }], guard := none }) (oj := { dst := some 8, op := Op.alloc 26, type := 0, pos := "law.go:125", after := #[], guard := none }) (by kernel_rfl) rfl rfl (by rfl) (by rfl) (fun K hK => ?_) (fun K hK => ?_)
      · go_simp
        refine (fsquare_any _ b hb rfl _).mono ?_
        rintro e w6_3 ⟨x6_3, rfl, hx6_3, vx6_3, bx6_3⟩
        replace hB := stepB hB bx6_3
        try replace hG := hG.kept bx6_3
        refine hK.out _ _ hB ?_
        clear hK K
        try simp only [Act.put, List.setIfInBounds_toArray, List.set_cons_zero, List.set_cons_succ]
        refine wpB_fork (i := 4) (j := 10) (oi := { dst := some 22, op := Op.call { callee := Callee.value (Operand.func 9), args := #[Operand.tmp 19, Operand.tmp 21], argTypes := #[26, 26] }, type := 26, pos := "law.go:125", after := #[{ on := 1, ground := Ground.data }, { on := 3, ground := Ground.data }, { on := 3, ground := Ground.chain }], guard := none }) (oj := { dst := some 8, op := Op.alloc 26, type := 0, pos := "law.go:125", after := #[], guard := none }) (by kernel_rfl) rfl rfl (by rfl) (by rfl) (fun K hK => ?_) (fun K hK => ?_)
        · go_simp
          refine (fadd_any _ _ x6_1 x6_3 hx6_1 hx6_3 rfl rfl _).mono ?_
          rintro e w6_4 ⟨x6_4, rfl, hx6_4, vx6_4, bx6_4⟩
          replace hB := stepB hB bx6_4
          try replace hG := hG.kept bx6_4
          refine hK.out _ _ hB ?_
          clear hK K
          try simp only [Act.put, List.setIfInBounds_toArray, List.set_cons_zero, List.set_cons_succ]
          refine wpB_fork (i := 7) (j := 10) (oi := { dst := some 25, op := Op.call { callee := Callee.value (Operand.func 10), args := #[Operand.tmp 23, Operand.tmp 24], argTypes := #[26, 26] }, type := 26, pos := "law.go:125", after := #[{ on := 5, ground := Ground.data }, { on := 6, ground := Ground.data }, { on := 4, ground := Ground.chain }], guard := none }) (oj := { dst := some 8, op := Op.alloc 26, type := 0, pos := "law.go:125", after := #[], guard := none }) (by kernel_rfl) rfl rfl (by rfl) (by rfl) (fun K hK => ?_) (fun K hK => ?_)
          · go_simp
            refine (fmul_any _ _ a b ha hb rfl rfl _).mono ?_
            rintro e w6_7 ⟨x6_7, rfl, hx6_7, vx6_7, bx6_7⟩
            replace hB := stepB hB bx6_7
            try replace hG := hG.kept bx6_7
            refine hK.out _ _ hB ?_
            clear hK K
            try simp only [Act.put, List.setIfInBounds_toArray, List.set_cons_zero, List.set_cons_succ]
            refine wpB_fork (i := 8) (j := 10) (oi := { dst := some 26, op := Op.call { callee := Callee.value (Operand.func 18), args := #[Operand.tmp 25, Operand.const (Value.int IntKind.u32 2)], argTypes := #[26, 39] }, type := 26, pos := "law.go:125", after := #[{ on := 7, ground := Ground.data }, { on := 7, ground := Ground.chain }], guard := none }) (oj := { dst := some 8, op := Op.alloc 26, type := 0, pos := "law.go:125", after := #[], guard := none }) (by kernel_rfl) rfl rfl (by rfl) (by rfl) (fun K hK => ?_) (fun K hK => ?_)
            · go_simp
              refine (ftimes_any _ x6_7 2 _ hx6_7 (by decide) rfl rfl _).mono ?_
              rintro e w6_8 ⟨x6_8, rfl, hx6_8, vx6_8, bx6_8⟩
              replace hB := stepB hB bx6_8
              try replace hG := hG.kept bx6_8
              refine hK.out _ _ hB ?_
              clear hK K
              try simp only [Act.put, List.setIfInBounds_toArray, List.set_cons_zero, List.set_cons_succ]
              refine wpB_fork (i := 9) (j := 10) (oi := { dst := some 27, op := Op.call { callee := Callee.value (Operand.func 9), args := #[Operand.tmp 22, Operand.tmp 26], argTypes := #[26, 26] }, type := 26, pos := "law.go:125", after := #[{ on := 4, ground := Ground.data }, { on := 8, ground := Ground.data }, { on := 8, ground := Ground.chain }], guard := none }) (oj := { dst := some 8, op := Op.alloc 26, type := 0, pos := "law.go:125", after := #[], guard := none }) (by kernel_rfl) rfl rfl (by rfl) (by rfl) (fun K hK => ?_) (fun K hK => ?_)
              · go_simp
                refine (fadd_any _ _ x6_4 x6_8 hx6_4 hx6_8 rfl rfl _).mono ?_
                rintro e w6_9 ⟨x6_9, rfl, hx6_9, vx6_9, bx6_9⟩
                replace hB := stepB hB bx6_9
                try replace hG := hG.kept bx6_9
                refine hK.out _ _ hB ?_
                clear hK K
                try simp only [Act.put, List.setIfInBounds_toArray, List.set_cons_zero, List.set_cons_succ]
                refine wpB_do (i := 10) (o := { dst := some 8, op := Op.alloc 26, type := 0, pos := "law.go:125", after := #[], guard := none }) (by kernel_rfl) rfl (by rfl) fun K hK => ?_
                refine wp_alloc_el hB rfl ?_
                intro g wA hG hge hBA
                replace hB := hBA
                refine hK.out _ _ hB ?_
                clear hK K
                try simp only [Act.put, List.setIfInBounds_toArray, List.set_cons_zero, List.set_cons_succ]
                refine wpB_do (i := 11) (o := { dst := none, op := Op.store 26 (Operand.tmp 8) (Operand.tmp 27), type := 0, pos := "law.go:125", after := #[{ on := 10, ground := Ground.data }, { on := 9, ground := Ground.data }, { on := 9, ground := Ground.chain }, { on := 0, ground := Ground.phase }, { on := 1, ground := Ground.phase }, { on := 2, ground := Ground.phase }, { on := 3, ground := Ground.phase }, { on := 4, ground := Ground.phase }, { on := 5, ground := Ground.phase }, { on := 6, ground := Ground.phase }, { on := 7, ground := Ground.phase }, { on := 8, ground := Ground.phase }, { on := 9, ground := Ground.phase }, { on := 10, ground := Ground.phase }], guard := none }) (by kernel_rfl) rfl (by rfl) fun K hK => ?_
                refine wp_store_el (l := z4) (l2 := x6_9) hB hge _ _ rfl rfl rfl hG z4_el hx6_9 ?_
                intro wS hGS hBS
                replace hB := hBS
                refine hK.out _ _ hB ?_
                clear hK K
                try simp only [Act.put, List.setIfInBounds_toArray, List.set_cons_zero, List.set_cons_succ]
                refine wpB_done (by kernel_rfl) ?_
                go_wp2_with fail
                go_meet
                exact ⟨g, x6_9, rfl, hx6_9, (addm vx6_9 (addm vx6_4 vx6_1 vx6_3) (mulm (X := 2) vx6_8 rfl vx6_7)), hGS, hB⟩
              · refine wp_alloc_el hB rfl ?_
                intro g wA hG hge hBA
                replace hB := hBA
                refine hK.out _ _ hB ?_
                clear hK K
                try simp only [Act.put, List.setIfInBounds_toArray, List.set_cons_zero, List.set_cons_succ]
                refine wpB_do (i := 9) (o := { dst := some 27, op := Op.call { callee := Callee.value (Operand.func 9), args := #[Operand.tmp 22, Operand.tmp 26], argTypes := #[26, 26] }, type := 26, pos := "law.go:125", after := #[{ on := 4, ground := Ground.data }, { on := 8, ground := Ground.data }, { on := 8, ground := Ground.chain }], guard := none }) (by kernel_rfl) rfl (by rfl) fun K hK => ?_
                go_simp
                refine (fadd_any _ _ x6_4 x6_8 hx6_4 hx6_8 rfl rfl _).mono ?_
                rintro e w6_9 ⟨x6_9, rfl, hx6_9, vx6_9, bx6_9⟩
                replace hB := stepB hB bx6_9
                try replace hG := hG.kept bx6_9
                refine hK.out _ _ hB ?_
                clear hK K
                try simp only [Act.put, List.setIfInBounds_toArray, List.set_cons_zero, List.set_cons_succ]
                refine wpB_do (i := 11) (o := { dst := none, op := Op.store 26 (Operand.tmp 8) (Operand.tmp 27), type := 0, pos := "law.go:125", after := #[{ on := 10, ground := Ground.data }, { on := 9, ground := Ground.data }, { on := 9, ground := Ground.chain }, { on := 0, ground := Ground.phase }, { on := 1, ground := Ground.phase }, { on := 2, ground := Ground.phase }, { on := 3, ground := Ground.phase }, { on := 4, ground := Ground.phase }, { on := 5, ground := Ground.phase }, { on := 6, ground := Ground.phase }, { on := 7, ground := Ground.phase }, { on := 8, ground := Ground.phase }, { on := 9, ground := Ground.phase }, { on := 10, ground := Ground.phase }], guard := none }) (by kernel_rfl) rfl (by rfl) fun K hK => ?_
                refine wp_store_el (l := z4) (l2 := x6_9) hB hge _ _ rfl rfl rfl hG z4_el hx6_9 ?_
                intro wS hGS hBS
                replace hB := hBS
                refine hK.out _ _ hB ?_
                clear hK K
                try simp only [Act.put, List.setIfInBounds_toArray, List.set_cons_zero, List.set_cons_succ]
                refine wpB_done (by kernel_rfl) ?_
                go_wp2_with fail
                go_meet
                exact ⟨g, x6_9, rfl, hx6_9, (addm vx6_9 (addm vx6_4 vx6_1 vx6_3) (mulm (X := 2) vx6_8 rfl vx6_7)), hGS, hB⟩
            · refine wp_alloc_el hB rfl ?_
              intro g wA hG hge hBA
              replace hB := hBA
              refine hK.out _ _ hB ?_
              clear hK K
              try simp only [Act.put, List.setIfInBounds_toArray, List.set_cons_zero, List.set_cons_succ]
              refine wpB_do (i := 8) (o := { dst := some 26, op := Op.call { callee := Callee.value (Operand.func 18), args := #[Operand.tmp 25, Operand.const (Value.int IntKind.u32 2)], argTypes := #[26, 39] }, type := 26, pos := "law.go:125", after := #[{ on := 7, ground := Ground.data }, { on := 7, ground := Ground.chain }], guard := none }) (by kernel_rfl) rfl (by rfl) fun K hK => ?_
              go_simp
              refine (ftimes_any _ x6_7 2 _ hx6_7 (by decide) rfl rfl _).mono ?_
              rintro e w6_8 ⟨x6_8, rfl, hx6_8, vx6_8, bx6_8⟩
              replace hB := stepB hB bx6_8
              try replace hG := hG.kept bx6_8
              refine hK.out _ _ hB ?_
              clear hK K
              try simp only [Act.put, List.setIfInBounds_toArray, List.set_cons_zero, List.set_cons_succ]
              refine wpB_do (i := 9) (o := { dst := some 27, op := Op.call { callee := Callee.value (Operand.func 9), args := #[Operand.tmp 22, Operand.tmp 26], argTypes := #[26, 26] }, type := 26, pos := "law.go:125", after := #[{ on := 4, ground := Ground.data }, { on := 8, ground := Ground.data }, { on := 8, ground := Ground.chain }], guard := none }) (by kernel_rfl) rfl (by rfl) fun K hK => ?_
              go_simp
              refine (fadd_any _ _ x6_4 x6_8 hx6_4 hx6_8 rfl rfl _).mono ?_
              rintro e w6_9 ⟨x6_9, rfl, hx6_9, vx6_9, bx6_9⟩
              replace hB := stepB hB bx6_9
              try replace hG := hG.kept bx6_9
              refine hK.out _ _ hB ?_
              clear hK K
              try simp only [Act.put, List.setIfInBounds_toArray, List.set_cons_zero, List.set_cons_succ]
              refine wpB_do (i := 11) (o := { dst := none, op := Op.store 26 (Operand.tmp 8) (Operand.tmp 27), type := 0, pos := "law.go:125", after := #[{ on := 10, ground := Ground.data }, { on := 9, ground := Ground.data }, { on := 9, ground := Ground.chain }, { on := 0, ground := Ground.phase }, { on := 1, ground := Ground.phase }, { on := 2, ground := Ground.phase }, { on := 3, ground := Ground.phase }, { on := 4, ground := Ground.phase }, { on := 5, ground := Ground.phase }, { on := 6, ground := Ground.phase }, { on := 7, ground := Ground.phase }, { on := 8, ground := Ground.phase }, { on := 9, ground := Ground.phase }, { on := 10, ground := Ground.phase }], guard := none }) (by kernel_rfl) rfl (by rfl) fun K hK => ?_
              refine wp_store_el (l := z4) (l2 := x6_9) hB hge _ _ rfl rfl rfl hG z4_el hx6_9 ?_
              intro wS hGS hBS
              replace hB := hBS
              refine hK.out _ _ hB ?_
              clear hK K
              try simp only [Act.put, List.setIfInBounds_toArray, List.set_cons_zero, List.set_cons_succ]
              refine wpB_done (by kernel_rfl) ?_
              go_wp2_with fail
              go_meet
              exact ⟨g, x6_9, rfl, hx6_9, (addm vx6_9 (addm vx6_4 vx6_1 vx6_3) (mulm (X := 2) vx6_8 rfl vx6_7)), hGS, hB⟩
          · refine wp_alloc_el hB rfl ?_
            intro g wA hG hge hBA
            replace hB := hBA
            refine hK.out _ _ hB ?_
            clear hK K
            try simp only [Act.put, List.setIfInBounds_toArray, List.set_cons_zero, List.set_cons_succ]
            refine wpB_do (i := 7) (o := { dst := some 25, op := Op.call { callee := Callee.value (Operand.func 10), args := #[Operand.tmp 23, Operand.tmp 24], argTypes := #[26, 26] }, type := 26, pos := "law.go:125", after := #[{ on := 5, ground := Ground.data }, { on := 6, ground := Ground.data }, { on := 4, ground := Ground.chain }], guard := none }) (by kernel_rfl) rfl (by rfl) fun K hK => ?_
            go_simp
            refine (fmul_any _ _ a b ha hb rfl rfl _).mono ?_
            rintro e w6_7 ⟨x6_7, rfl, hx6_7, vx6_7, bx6_7⟩
            replace hB := stepB hB bx6_7
            try replace hG := hG.kept bx6_7
            refine hK.out _ _ hB ?_
            clear hK K
            try simp only [Act.put, List.setIfInBounds_toArray, List.set_cons_zero, List.set_cons_succ]
            refine wpB_do (i := 8) (o := { dst := some 26, op := Op.call { callee := Callee.value (Operand.func 18), args := #[Operand.tmp 25, Operand.const (Value.int IntKind.u32 2)], argTypes := #[26, 39] }, type := 26, pos := "law.go:125", after := #[{ on := 7, ground := Ground.data }, { on := 7, ground := Ground.chain }], guard := none }) (by kernel_rfl) rfl (by rfl) fun K hK => ?_
            go_simp
            refine (ftimes_any _ x6_7 2 _ hx6_7 (by decide) rfl rfl _).mono ?_
            rintro e w6_8 ⟨x6_8, rfl, hx6_8, vx6_8, bx6_8⟩
            replace hB := stepB hB bx6_8
            try replace hG := hG.kept bx6_8
            refine hK.out _ _ hB ?_
            clear hK K
            try simp only [Act.put, List.setIfInBounds_toArray, List.set_cons_zero, List.set_cons_succ]
            refine wpB_do (i := 9) (o := { dst := some 27, op := Op.call { callee := Callee.value (Operand.func 9), args := #[Operand.tmp 22, Operand.tmp 26], argTypes := #[26, 26] }, type := 26, pos := "law.go:125", after := #[{ on := 4, ground := Ground.data }, { on := 8, ground := Ground.data }, { on := 8, ground := Ground.chain }], guard := none }) (by kernel_rfl) rfl (by rfl) fun K hK => ?_
            go_simp
            refine (fadd_any _ _ x6_4 x6_8 hx6_4 hx6_8 rfl rfl _).mono ?_
            rintro e w6_9 ⟨x6_9, rfl, hx6_9, vx6_9, bx6_9⟩
            replace hB := stepB hB bx6_9
            try replace hG := hG.kept bx6_9
            refine hK.out _ _ hB ?_
            clear hK K
            try simp only [Act.put, List.setIfInBounds_toArray, List.set_cons_zero, List.set_cons_succ]
            refine wpB_do (i := 11) (o := { dst := none, op := Op.store 26 (Operand.tmp 8) (Operand.tmp 27), type := 0, pos := "law.go:125", after := #[{ on := 10, ground := Ground.data }, { on := 9, ground := Ground.data }, { on := 9, ground := Ground.chain }, { on := 0, ground := Ground.phase }, { on := 1, ground := Ground.phase }, { on := 2, ground := Ground.phase }, { on := 3, ground := Ground.phase }, { on := 4, ground := Ground.phase }, { on := 5, ground := Ground.phase }, { on := 6, ground := Ground.phase }, { on := 7, ground := Ground.phase }, { on := 8, ground := Ground.phase }, { on := 9, ground := Ground.phase }, { on := 10, ground := Ground.phase }], guard := none }) (by kernel_rfl) rfl (by rfl) fun K hK => ?_
            refine wp_store_el (l := z4) (l2 := x6_9) hB hge _ _ rfl rfl rfl hG z4_el hx6_9 ?_
            intro wS hGS hBS
            replace hB := hBS
            refine hK.out _ _ hB ?_
            clear hK K
            try simp only [Act.put, List.setIfInBounds_toArray, List.set_cons_zero, List.set_cons_succ]
            refine wpB_done (by kernel_rfl) ?_
            go_wp2_with fail
            go_meet
            exact ⟨g, x6_9, rfl, hx6_9, (addm vx6_9 (addm vx6_4 vx6_1 vx6_3) (mulm (X := 2) vx6_8 rfl vx6_7)), hGS, hB⟩
        · refine wp_alloc_el hB rfl ?_
          intro g wA hG hge hBA
          replace hB := hBA
          refine hK.out _ _ hB ?_
          clear hK K
          try simp only [Act.put, List.setIfInBounds_toArray, List.set_cons_zero, List.set_cons_succ]
          refine wpB_do (i := 4) (o := { dst := some 22, op := Op.call { callee := Callee.value (Operand.func 9), args := #[Operand.tmp 19, Operand.tmp 21], argTypes := #[26, 26] }, type := 26, pos := "law.go:125", after := #[{ on := 1, ground := Ground.data }, { on := 3, ground := Ground.data }, { on := 3, ground := Ground.chain }], guard := none }) (by kernel_rfl) rfl (by rfl) fun K hK => ?_
          go_simp
          refine (fadd_any _ _ x6_1 x6_3 hx6_1 hx6_3 rfl rfl _).mono ?_
          rintro e w6_4 ⟨x6_4, rfl, hx6_4, vx6_4, bx6_4⟩
          replace hB := stepB hB bx6_4
          try replace hG := hG.kept bx6_4
          refine hK.out _ _ hB ?_
          clear hK K
          try simp only [Act.put, List.setIfInBounds_toArray, List.set_cons_zero, List.set_cons_succ]
          refine wpB_do (i := 7) (o := { dst := some 25, op := Op.call { callee := Callee.value (Operand.func 10), args := #[Operand.tmp 23, Operand.tmp 24], argTypes := #[26, 26] }, type := 26, pos := "law.go:125", after := #[{ on := 5, ground := Ground.data }, { on := 6, ground := Ground.data }, { on := 4, ground := Ground.chain }], guard := none }) (by kernel_rfl) rfl (by rfl) fun K hK => ?_
          go_simp
          refine (fmul_any _ _ a b ha hb rfl rfl _).mono ?_
          rintro e w6_7 ⟨x6_7, rfl, hx6_7, vx6_7, bx6_7⟩
          replace hB := stepB hB bx6_7
          try replace hG := hG.kept bx6_7
          refine hK.out _ _ hB ?_
          clear hK K
          try simp only [Act.put, List.setIfInBounds_toArray, List.set_cons_zero, List.set_cons_succ]
          refine wpB_do (i := 8) (o := { dst := some 26, op := Op.call { callee := Callee.value (Operand.func 18), args := #[Operand.tmp 25, Operand.const (Value.int IntKind.u32 2)], argTypes := #[26, 39] }, type := 26, pos := "law.go:125", after := #[{ on := 7, ground := Ground.data }, { on := 7, ground := Ground.chain }], guard := none }) (by kernel_rfl) rfl (by rfl) fun K hK => ?_
          go_simp
          refine (ftimes_any _ x6_7 2 _ hx6_7 (by decide) rfl rfl _).mono ?_
          rintro e w6_8 ⟨x6_8, rfl, hx6_8, vx6_8, bx6_8⟩
          replace hB := stepB hB bx6_8
          try replace hG := hG.kept bx6_8
          refine hK.out _ _ hB ?_
          clear hK K
          try simp only [Act.put, List.setIfInBounds_toArray, List.set_cons_zero, List.set_cons_succ]
          refine wpB_do (i := 9) (o := { dst := some 27, op := Op.call { callee := Callee.value (Operand.func 9), args := #[Operand.tmp 22, Operand.tmp 26], argTypes := #[26, 26] }, type := 26, pos := "law.go:125", after := #[{ on := 4, ground := Ground.data }, { on := 8, ground := Ground.data }, { on := 8, ground := Ground.chain }], guard := none }) (by kernel_rfl) rfl (by rfl) fun K hK => ?_
          go_simp
          refine (fadd_any _ _ x6_4 x6_8 hx6_4 hx6_8 rfl rfl _).mono ?_
          rintro e w6_9 ⟨x6_9, rfl, hx6_9, vx6_9, bx6_9⟩
          replace hB := stepB hB bx6_9
          try replace hG := hG.kept bx6_9
          refine hK.out _ _ hB ?_
          clear hK K
          try simp only [Act.put, List.setIfInBounds_toArray, List.set_cons_zero, List.set_cons_succ]
          refine wpB_do (i := 11) (o := { dst := none, op := Op.store 26 (Operand.tmp 8) (Operand.tmp 27), type := 0, pos := "law.go:125", after := #[{ on := 10, ground := Ground.data }, { on := 9, ground := Ground.data }, { on := 9, ground := Ground.chain }, { on := 0, ground := Ground.phase }, { on := 1, ground := Ground.phase }, { on := 2, ground := Ground.phase }, { on := 3, ground := Ground.phase }, { on := 4, ground := Ground.phase }, { on := 5, ground := Ground.phase }, { on := 6, ground := Ground.phase }, { on := 7, ground := Ground.phase }, { on := 8, ground := Ground.phase }, { on := 9, ground := Ground.phase }, { on := 10, ground := Ground.phase }], guard := none }) (by kernel_rfl) rfl (by rfl) fun K hK => ?_
          refine wp_store_el (l := z4) (l2 := x6_9) hB hge _ _ rfl rfl rfl hG z4_el hx6_9 ?_
          intro wS hGS hBS
          replace hB := hBS
          refine hK.out _ _ hB ?_
          clear hK K
          try simp only [Act.put, List.setIfInBounds_toArray, List.set_cons_zero, List.set_cons_succ]
          refine wpB_done (by kernel_rfl) ?_
          go_wp2_with fail
          go_meet
          exact ⟨g, x6_9, rfl, hx6_9, (addm vx6_9 (addm vx6_4 vx6_1 vx6_3) (mulm (X := 2) vx6_8 rfl vx6_7)), hGS, hB⟩
      · refine wp_alloc_el hB rfl ?_
        intro g wA hG hge hBA
        replace hB := hBA
        refine hK.out _ _ hB ?_
        clear hK K
        try simp only [Act.put, List.setIfInBounds_toArray, List.set_cons_zero, List.set_cons_succ]
        refine wpB_do (i := 3) (o := { dst := some 21, op := Op.call { callee := Callee.value (Operand.func 17), args := #[Operand.tmp 20], argTypes := #[26] }, type := 26, pos := "law.go:125", after := #[{ on := 2, ground := Ground.data }, { on := 1, ground := Ground.chain }], guard := none }) (by kernel_rfl) rfl (by rfl) fun K hK => ?_
        go_simp
        refine (fsquare_any _ b hb rfl _).mono ?_
        rintro e w6_3 ⟨x6_3, rfl, hx6_3, vx6_3, bx6_3⟩
        replace hB := stepB hB bx6_3
        try replace hG := hG.kept bx6_3
        refine hK.out _ _ hB ?_
        clear hK K
        try simp only [Act.put, List.setIfInBounds_toArray, List.set_cons_zero, List.set_cons_succ]
        refine wpB_do (i := 4) (o := { dst := some 22, op := Op.call { callee := Callee.value (Operand.func 9), args := #[Operand.tmp 19, Operand.tmp 21], argTypes := #[26, 26] }, type := 26, pos := "law.go:125", after := #[{ on := 1, ground := Ground.data }, { on := 3, ground := Ground.data }, { on := 3, ground := Ground.chain }], guard := none }) (by kernel_rfl) rfl (by rfl) fun K hK => ?_
        go_simp
        refine (fadd_any _ _ x6_1 x6_3 hx6_1 hx6_3 rfl rfl _).mono ?_
        rintro e w6_4 ⟨x6_4, rfl, hx6_4, vx6_4, bx6_4⟩
        replace hB := stepB hB bx6_4
        try replace hG := hG.kept bx6_4
        refine hK.out _ _ hB ?_
        clear hK K
        try simp only [Act.put, List.setIfInBounds_toArray, List.set_cons_zero, List.set_cons_succ]
        refine wpB_do (i := 7) (o := { dst := some 25, op := Op.call { callee := Callee.value (Operand.func 10), args := #[Operand.tmp 23, Operand.tmp 24], argTypes := #[26, 26] }, type := 26, pos := "law.go:125", after := #[{ on := 5, ground := Ground.data }, { on := 6, ground := Ground.data }, { on := 4, ground := Ground.chain }], guard := none }) (by kernel_rfl) rfl (by rfl) fun K hK => ?_
        go_simp
        refine (fmul_any _ _ a b ha hb rfl rfl _).mono ?_
        rintro e w6_7 ⟨x6_7, rfl, hx6_7, vx6_7, bx6_7⟩
        replace hB := stepB hB bx6_7
        try replace hG := hG.kept bx6_7
        refine hK.out _ _ hB ?_
        clear hK K
        try simp only [Act.put, List.setIfInBounds_toArray, List.set_cons_zero, List.set_cons_succ]
        refine wpB_do (i := 8) (o := { dst := some 26, op := Op.call { callee := Callee.value (Operand.func 18), args := #[Operand.tmp 25, Operand.const (Value.int IntKind.u32 2)], argTypes := #[26, 39] }, type := 26, pos := "law.go:125", after := #[{ on := 7, ground := Ground.data }, { on := 7, ground := Ground.chain }], guard := none }) (by kernel_rfl) rfl (by rfl) fun K hK => ?_
        go_simp
        refine (ftimes_any _ x6_7 2 _ hx6_7 (by decide) rfl rfl _).mono ?_
        rintro e w6_8 ⟨x6_8, rfl, hx6_8, vx6_8, bx6_8⟩
        replace hB := stepB hB bx6_8
        try replace hG := hG.kept bx6_8
        refine hK.out _ _ hB ?_
        clear hK K
        try simp only [Act.put, List.setIfInBounds_toArray, List.set_cons_zero, List.set_cons_succ]
        refine wpB_do (i := 9) (o := { dst := some 27, op := Op.call { callee := Callee.value (Operand.func 9), args := #[Operand.tmp 22, Operand.tmp 26], argTypes := #[26, 26] }, type := 26, pos := "law.go:125", after := #[{ on := 4, ground := Ground.data }, { on := 8, ground := Ground.data }, { on := 8, ground := Ground.chain }], guard := none }) (by kernel_rfl) rfl (by rfl) fun K hK => ?_
        go_simp
        refine (fadd_any _ _ x6_4 x6_8 hx6_4 hx6_8 rfl rfl _).mono ?_
        rintro e w6_9 ⟨x6_9, rfl, hx6_9, vx6_9, bx6_9⟩
        replace hB := stepB hB bx6_9
        try replace hG := hG.kept bx6_9
        refine hK.out _ _ hB ?_
        clear hK K
        try simp only [Act.put, List.setIfInBounds_toArray, List.set_cons_zero, List.set_cons_succ]
        refine wpB_do (i := 11) (o := { dst := none, op := Op.store 26 (Operand.tmp 8) (Operand.tmp 27), type := 0, pos := "law.go:125", after := #[{ on := 10, ground := Ground.data }, { on := 9, ground := Ground.data }, { on := 9, ground := Ground.chain }, { on := 0, ground := Ground.phase }, { on := 1, ground := Ground.phase }, { on := 2, ground := Ground.phase }, { on := 3, ground := Ground.phase }, { on := 4, ground := Ground.phase }, { on := 5, ground := Ground.phase }, { on := 6, ground := Ground.phase }, { on := 7, ground := Ground.phase }, { on := 8, ground := Ground.phase }, { on := 9, ground := Ground.phase }, { on := 10, ground := Ground.phase }], guard := none }) (by kernel_rfl) rfl (by rfl) fun K hK => ?_
        refine wp_store_el (l := z4) (l2 := x6_9) hB hge _ _ rfl rfl rfl hG z4_el hx6_9 ?_
        intro wS hGS hBS
        replace hB := hBS
        refine hK.out _ _ hB ?_
        clear hK K
        try simp only [Act.put, List.setIfInBounds_toArray, List.set_cons_zero, List.set_cons_succ]
        refine wpB_done (by kernel_rfl) ?_
        go_wp2_with fail
        go_meet
        exact ⟨g, x6_9, rfl, hx6_9, (addm vx6_9 (addm vx6_4 vx6_1 vx6_3) (mulm (X := 2) vx6_8 rfl vx6_7)), hGS, hB⟩
    · refine wp_alloc_el hB rfl ?_
      intro g wA hG hge hBA
      replace hB := hBA
      refine hK.out _ _ hB ?_
      clear hK K
      try simp only [Act.put, List.setIfInBounds_toArray, List.set_cons_zero, List.set_cons_succ]
      refine wpB_do (i := 1) (o := { dst := some 19, op := Op.call { callee := Callee.value (Operand.func 17), args := #[Operand.tmp 18], argTypes := #[26] }, type := 26, pos := "law.go:125", after := #[{ on := 0, ground := Ground.data }], guard := none }) (by kernel_rfl) rfl (by rfl) fun K hK => ?_
      go_simp
      refine (fsquare_any _ a ha rfl _).mono ?_
      rintro e w6_1 ⟨x6_1, rfl, hx6_1, vx6_1, bx6_1⟩
      replace hB := stepB hB bx6_1
      try replace hG := hG.kept bx6_1
      refine hK.out _ _ hB ?_
      clear hK K
      try simp only [Act.put, List.setIfInBounds_toArray, List.set_cons_zero, List.set_cons_succ]
      refine wpB_do (i := 3) (o := { dst := some 21, op := Op.call { callee := Callee.value (Operand.func 17), args := #[Operand.tmp 20], argTypes := #[26] }, type := 26, pos := "law.go:125", after := #[{ on := 2, ground := Ground.data }, { on := 1, ground := Ground.chain }], guard := none }) (by kernel_rfl) rfl (by rfl) fun K hK => ?_
      go_simp
      refine (fsquare_any _ b hb rfl _).mono ?_
      rintro e w6_3 ⟨x6_3, rfl, hx6_3, vx6_3, bx6_3⟩
      replace hB := stepB hB bx6_3
      try replace hG := hG.kept bx6_3
      refine hK.out _ _ hB ?_
      clear hK K
      try simp only [Act.put, List.setIfInBounds_toArray, List.set_cons_zero, List.set_cons_succ]
      refine wpB_do (i := 4) (o := { dst := some 22, op := Op.call { callee := Callee.value (Operand.func 9), args := #[Operand.tmp 19, Operand.tmp 21], argTypes := #[26, 26] }, type := 26, pos := "law.go:125", after := #[{ on := 1, ground := Ground.data }, { on := 3, ground := Ground.data }, { on := 3, ground := Ground.chain }], guard := none }) (by kernel_rfl) rfl (by rfl) fun K hK => ?_
      go_simp
      refine (fadd_any _ _ x6_1 x6_3 hx6_1 hx6_3 rfl rfl _).mono ?_
      rintro e w6_4 ⟨x6_4, rfl, hx6_4, vx6_4, bx6_4⟩
      replace hB := stepB hB bx6_4
      try replace hG := hG.kept bx6_4
      refine hK.out _ _ hB ?_
      clear hK K
      try simp only [Act.put, List.setIfInBounds_toArray, List.set_cons_zero, List.set_cons_succ]
      refine wpB_do (i := 7) (o := { dst := some 25, op := Op.call { callee := Callee.value (Operand.func 10), args := #[Operand.tmp 23, Operand.tmp 24], argTypes := #[26, 26] }, type := 26, pos := "law.go:125", after := #[{ on := 5, ground := Ground.data }, { on := 6, ground := Ground.data }, { on := 4, ground := Ground.chain }], guard := none }) (by kernel_rfl) rfl (by rfl) fun K hK => ?_
      go_simp
      refine (fmul_any _ _ a b ha hb rfl rfl _).mono ?_
      rintro e w6_7 ⟨x6_7, rfl, hx6_7, vx6_7, bx6_7⟩
      replace hB := stepB hB bx6_7
      try replace hG := hG.kept bx6_7
      refine hK.out _ _ hB ?_
      clear hK K
      try simp only [Act.put, List.setIfInBounds_toArray, List.set_cons_zero, List.set_cons_succ]
      refine wpB_do (i := 8) (o := { dst := some 26, op := Op.call { callee := Callee.value (Operand.func 18), args := #[Operand.tmp 25, Operand.const (Value.int IntKind.u32 2)], argTypes := #[26, 39] }, type := 26, pos := "law.go:125", after := #[{ on := 7, ground := Ground.data }, { on := 7, ground := Ground.chain }], guard := none }) (by kernel_rfl) rfl (by rfl) fun K hK => ?_
      go_simp
      refine (ftimes_any _ x6_7 2 _ hx6_7 (by decide) rfl rfl _).mono ?_
      rintro e w6_8 ⟨x6_8, rfl, hx6_8, vx6_8, bx6_8⟩
      replace hB := stepB hB bx6_8
      try replace hG := hG.kept bx6_8
      refine hK.out _ _ hB ?_
      clear hK K
      try simp only [Act.put, List.setIfInBounds_toArray, List.set_cons_zero, List.set_cons_succ]
      refine wpB_do (i := 9) (o := { dst := some 27, op := Op.call { callee := Callee.value (Operand.func 9), args := #[Operand.tmp 22, Operand.tmp 26], argTypes := #[26, 26] }, type := 26, pos := "law.go:125", after := #[{ on := 4, ground := Ground.data }, { on := 8, ground := Ground.data }, { on := 8, ground := Ground.chain }], guard := none }) (by kernel_rfl) rfl (by rfl) fun K hK => ?_
      go_simp
      refine (fadd_any _ _ x6_4 x6_8 hx6_4 hx6_8 rfl rfl _).mono ?_
      rintro e w6_9 ⟨x6_9, rfl, hx6_9, vx6_9, bx6_9⟩
      replace hB := stepB hB bx6_9
      try replace hG := hG.kept bx6_9
      refine hK.out _ _ hB ?_
      clear hK K
      try simp only [Act.put, List.setIfInBounds_toArray, List.set_cons_zero, List.set_cons_succ]
      refine wpB_do (i := 11) (o := { dst := none, op := Op.store 26 (Operand.tmp 8) (Operand.tmp 27), type := 0, pos := "law.go:125", after := #[{ on := 10, ground := Ground.data }, { on := 9, ground := Ground.data }, { on := 9, ground := Ground.chain }, { on := 0, ground := Ground.phase }, { on := 1, ground := Ground.phase }, { on := 2, ground := Ground.phase }, { on := 3, ground := Ground.phase }, { on := 4, ground := Ground.phase }, { on := 5, ground := Ground.phase }, { on := 6, ground := Ground.phase }, { on := 7, ground := Ground.phase }, { on := 8, ground := Ground.phase }, { on := 9, ground := Ground.phase }, { on := 10, ground := Ground.phase }], guard := none }) (by kernel_rfl) rfl (by rfl) fun K hK => ?_
      refine wp_store_el (l := z4) (l2 := x6_9) hB hge _ _ rfl rfl rfl hG z4_el hx6_9 ?_
      intro wS hGS hBS
      replace hB := hBS
      refine hK.out _ _ hB ?_
      clear hK K
      try simp only [Act.put, List.setIfInBounds_toArray, List.set_cons_zero, List.set_cons_succ]
      refine wpB_done (by kernel_rfl) ?_
      go_wp2_with fail
      go_meet
      exact ⟨g, x6_9, rfl, hx6_9, (addm vx6_9 (addm vx6_4 vx6_1 vx6_3) (mulm (X := 2) vx6_8 rfl vx6_7)), hGS, hB⟩
  case rest =>
  obtain ⟨gt, t, rfl, Ht, Vt, rt, bn⟩ := hcut
  have ht := Ht.out
  clear Ht
  replace ra := ra.kept bn
  replace rb := rb.kept bn
  replace rxs := rxs.kept bn
  replace Rn := Rn.kept bn
  replace hbw := stepB hbw bn
  clear bn
  rename World => wct
  go_wp2_with fail
  have hB : Below wct.heap.size wct wct.drew := (Below.refl _ _).drew
  refine wpB_begin (Below.refl wct.heap.size wct) (by kernel_rfl) ?_
  refine wpB_take (hb := hB) (i := 0) (oi := { dst := some 28, op := Op.load 23 (Operand.tmp 2), type := 23, pos := "law.go:126", after := #[], guard := none }) (v := ?_) rfl (by kernel_rfl) (by kernel_rfl) (by kernel_rfl) (by rfl) ?_ ?_
  rotate_left
  · intro W hW; refine Eq.trans (exec_load_row' 23 _ (by rfl) (by rfl) ra hW _ Try.underlying23 rfl (arInfo ha)) ?_; with_reducible rfl
  try simp only [Act.put, List.setIfInBounds_toArray, List.set_cons_zero, List.set_cons_succ]
  refine wpB_take (hb := hB) (i := 2) (oi := { dst := some 30, op := Op.move (Operand.tmp 6), type := 33, pos := "law.go:126", after := #[], guard := none }) (v := ?_) rfl (by kernel_rfl) (by kernel_rfl) (by kernel_rfl) (by rfl) ?_ ?_
  rotate_left
  · intro W hW; first | (go_simp; done) | (go_simp; with_reducible rfl)
  try simp only [Act.put, List.setIfInBounds_toArray, List.set_cons_zero, List.set_cons_succ]
  refine wpB_take (hb := hB) (i := 3) (oi := { dst := some 31, op := Op.move (Operand.tmp 6), type := 33, pos := "law.go:126", after := #[], guard := none }) (v := ?_) rfl (by kernel_rfl) (by kernel_rfl) (by kernel_rfl) (by rfl) ?_ ?_
  rotate_left
  · intro W hW; first | (go_simp; done) | (go_simp; with_reducible rfl)
  try simp only [Act.put, List.setIfInBounds_toArray, List.set_cons_zero, List.set_cons_succ]
  refine wpB_do (i := 1) (o := { dst := some 29, op := Op.call { callee := Callee.value (Operand.func 17), args := #[Operand.tmp 28], argTypes := #[26] }, type := 26, pos := "law.go:126", after := #[{ on := 0, ground := Ground.data }], guard := none }) (by kernel_rfl) rfl (by rfl) fun K hK => ?_
  go_simp
  refine (fsquare_any _ a ha rfl _).mono ?_
  rintro e w7_1 ⟨x7_1, rfl, hx7_1, vx7_1, bx7_1⟩
  replace hB := stepB hB bx7_1
  refine hK.out _ _ hB ?_
  clear hK K
  try simp only [Act.put, List.setIfInBounds_toArray, List.set_cons_zero, List.set_cons_succ]
  refine wpB_do (i := 4) (o := { dst := some 32, op := Op.call { callee := Callee.value (Operand.func 19), args := #[Operand.tmp 30, Operand.tmp 31], argTypes := #[33, 33] }, type := 33, pos := "law.go:126", after := #[{ on := 2, ground := Ground.data }, { on := 3, ground := Ground.data }, { on := 1, ground := Ground.chain }], guard := none }) (by kernel_rfl) rfl (by rfl) fun K hK => ?_
  go_simp
  refine (mulR_any _ _ _ _ _ (Rn.drew.kept bx7_1) (Rn.drew.kept bx7_1)).mono ?_
  rintro e w7_4 ⟨x7_4, rfl, Rx7_4, bx7_4⟩
  replace hB := stepB hB bx7_4
  refine hK.out _ _ hB ?_
  clear hK K
  try simp only [Act.put, List.setIfInBounds_toArray, List.set_cons_zero, List.set_cons_succ]
  refine wpB_do (i := 5) (o := { dst := some 33, op := Op.call { callee := Callee.value (Operand.func 14), args := #[Operand.tmp 29, Operand.tmp 32], argTypes := #[26, 33] }, type := 4, pos := "law.go:126", after := #[{ on := 1, ground := Ground.data }, { on := 4, ground := Ground.data }, { on := 4, ground := Ground.chain }], guard := none }) (by kernel_rfl) rfl (by rfl) fun K hK => ?_
  go_simp
  refine (is_true _ x7_1 _ _ hx7_1 vx7_1 rfl _ Rx7_4).mono ?_
  rintro e w7_5 ⟨rfl, bx7_5⟩
  replace hB := stepB hB bx7_5
  refine hK.out _ _ hB ?_
  clear hK K
  try simp only [Act.put, List.setIfInBounds_toArray, List.set_cons_zero, List.set_cons_succ]
  refine wpB_take (hb := hB) (i := 6) (oi := { dst := some 34, op := Op.move (Operand.tmp 33), type := 4, pos := "law.go:126", after := #[{ on := 5, ground := Ground.data }, { on := 5, ground := Ground.chain }], guard := none }) (v := ?_) rfl (by kernel_rfl) (by kernel_rfl) (by kernel_rfl) (by rfl) ?_ ?_
  rotate_left
  · intro W hW; first | (go_simp; done) | (go_simp; with_reducible rfl)
  try simp only [Act.put, List.setIfInBounds_toArray, List.set_cons_zero, List.set_cons_succ]
  refine wpB_take (hb := hB) (i := 7) (oi := { dst := some 35, op := Op.build 26 #[], type := 26, pos := "law.go:126", after := #[{ on := 6, ground := Ground.guard }], guard := some (6, true) }) (v := ?_) rfl (by kernel_rfl) (by kernel_rfl) (by kernel_rfl) (by rfl) ?_ ?_
  rotate_left
  · intro W hW; first | (go_simp; done) | (go_simp; with_reducible rfl)
  try simp only [Act.put, List.setIfInBounds_toArray, List.set_cons_zero, List.set_cons_succ]
  refine wpB_take (hb := hB) (i := 8) (oi := { dst := some 36, op := Op.load 23 (Operand.tmp 2), type := 23, pos := "law.go:126", after := #[{ on := 6, ground := Ground.guard }], guard := some (6, true) }) (v := ?_) rfl (by kernel_rfl) (by kernel_rfl) (by kernel_rfl) (by rfl) ?_ ?_
  rotate_left
  · intro W hW; refine Eq.trans (exec_load_row' 23 _ (by rfl) (by rfl) ra hW _ Try.underlying23 rfl (arInfo ha)) ?_; with_reducible rfl
  try simp only [Act.put, List.setIfInBounds_toArray, List.set_cons_zero, List.set_cons_succ]
  refine wpB_take (hb := hB) (i := 11) (oi := { dst := some 39, op := Op.load 23 (Operand.tmp 2), type := 23, pos := "law.go:126", after := #[{ on := 6, ground := Ground.guard }], guard := some (6, true) }) (v := ?_) rfl (by kernel_rfl) (by kernel_rfl) (by kernel_rfl) (by rfl) ?_ ?_
  rotate_left
  · intro W hW; refine Eq.trans (exec_load_row' 23 _ (by rfl) (by rfl) ra hW _ Try.underlying23 rfl (arInfo ha)) ?_; with_reducible rfl
  try simp only [Act.put, List.setIfInBounds_toArray, List.set_cons_zero, List.set_cons_succ]
  refine wpB_do (i := 9) (o := { dst := some 37, op := Op.call { callee := Callee.value (Operand.func 11), args := #[Operand.tmp 35, Operand.tmp 36], argTypes := #[26, 26] }, type := 26, pos := "law.go:126", after := #[{ on := 7, ground := Ground.data }, { on := 8, ground := Ground.data }, { on := 6, ground := Ground.chain }, { on := 6, ground := Ground.guard }], guard := some (6, true) }) (by kernel_rfl) rfl (by rfl) fun K hK => ?_
  go_simp
  refine (fsub_any _ _ z4 a z4_el ha rfl rfl _).mono ?_
  rintro e w7_9 ⟨x7_9, rfl, hx7_9, vx7_9, bx7_9⟩
  replace hB := stepB hB bx7_9
  refine hK.out _ _ hB ?_
  clear hK K
  try simp only [Act.put, List.setIfInBounds_toArray, List.set_cons_zero, List.set_cons_succ]
  refine wpB_do (i := 10) (o := { dst := some 38, op := Op.call { callee := Callee.value (Operand.func 17), args := #[Operand.tmp 37], argTypes := #[26] }, type := 26, pos := "law.go:126", after := #[{ on := 9, ground := Ground.data }, { on := 9, ground := Ground.chain }, { on := 6, ground := Ground.guard }], guard := some (6, true) }) (by kernel_rfl) rfl (by rfl) fun K hK => ?_
  go_simp
  refine (fsquare_any _ x7_9 hx7_9 rfl _).mono ?_
  rintro e w7_10 ⟨x7_10, rfl, hx7_10, vx7_10, bx7_10⟩
  replace hB := stepB hB bx7_10
  refine hK.out _ _ hB ?_
  clear hK K
  try simp only [Act.put, List.setIfInBounds_toArray, List.set_cons_zero, List.set_cons_succ]
  refine wpB_do (i := 12) (o := { dst := some 40, op := Op.call { callee := Callee.value (Operand.func 17), args := #[Operand.tmp 39], argTypes := #[26] }, type := 26, pos := "law.go:126", after := #[{ on := 11, ground := Ground.data }, { on := 10, ground := Ground.chain }, { on := 6, ground := Ground.guard }], guard := some (6, true) }) (by kernel_rfl) rfl (by rfl) fun K hK => ?_
  go_simp
  refine (fsquare_any _ a ha rfl _).mono ?_
  rintro e w7_12 ⟨x7_12, rfl, hx7_12, vx7_12, bx7_12⟩
  replace hB := stepB hB bx7_12
  refine hK.out _ _ hB ?_
  clear hK K
  try simp only [Act.put, List.setIfInBounds_toArray, List.set_cons_zero, List.set_cons_succ]
  refine wpB_do (i := 13) (o := { dst := some 41, op := Op.call { callee := Callee.value (Operand.func 8), args := #[Operand.tmp 38, Operand.tmp 40], argTypes := #[26, 26] }, type := 4, pos := "law.go:126", after := #[{ on := 10, ground := Ground.data }, { on := 12, ground := Ground.data }, { on := 12, ground := Ground.chain }, { on := 6, ground := Ground.guard }], guard := some (6, true) }) (by kernel_rfl) rfl (by rfl) fun K hK => ?_
  go_simp
  refine (fsame_true _ _ x7_10 x7_12 hx7_10 hx7_12 (law_opp vx7_9 vx7_10 vx7_12) rfl rfl _).mono ?_
  rintro e w7_13 ⟨rfl, bx7_13⟩
  replace hB := stepB hB bx7_13
  refine hK.out _ _ hB ?_
  clear hK K
  try simp only [Act.put, List.setIfInBounds_toArray, List.set_cons_zero, List.set_cons_succ]
  refine wpB_take (hb := hB) (i := 14) (oi := { dst := some 42, op := Op.pick (Operand.tmp 34) (Operand.tmp 41) (Operand.const (Value.bool false)), type := 4, pos := "law.go:126", after := #[{ on := 6, ground := Ground.data }, { on := 13, ground := Ground.data }], guard := none }) (v := ?_) rfl (by kernel_rfl) (by kernel_rfl) (by kernel_rfl) (by rfl) ?_ ?_
  rotate_left
  · intro W hW; first | (go_simp; done) | (go_simp; with_reducible rfl)
  try simp only [Act.put, List.setIfInBounds_toArray, List.set_cons_zero, List.set_cons_succ]
  refine wpB_take (hb := hB) (i := 15) (oi := { dst := some 43, op := Op.move (Operand.tmp 42), type := 4, pos := "law.go:126", after := #[{ on := 14, ground := Ground.data }, { on := 13, ground := Ground.chain }], guard := none }) (v := ?_) rfl (by kernel_rfl) (by kernel_rfl) (by kernel_rfl) (by rfl) ?_ ?_
  rotate_left
  · intro W hW; first | (go_simp; done) | (go_simp; with_reducible rfl)
  try simp only [Act.put, List.setIfInBounds_toArray, List.set_cons_zero, List.set_cons_succ]
  refine wpB_take (hb := hB) (i := 16) (oi := { dst := some 44, op := Op.load 26 (Operand.tmp 7), type := 26, pos := "law.go:126", after := #[{ on := 15, ground := Ground.guard }], guard := some (15, true) }) (v := ?_) rfl (by kernel_rfl) (by kernel_rfl) (by kernel_rfl) (by rfl) ?_ ?_
  rotate_left
  · intro W hW; refine Eq.trans (exec_load_row' 26 _ (by rfl) (by rfl) rxs hW _ Try.underlying26 rfl (elInfo hxs)) ?_; with_reducible rfl
  try simp only [Act.put, List.setIfInBounds_toArray, List.set_cons_zero, List.set_cons_succ]
  refine wpB_take (hb := hB) (i := 17) (oi := { dst := some 45, op := Op.load 26 (Operand.tmp 8), type := 26, pos := "law.go:126", after := #[{ on := 15, ground := Ground.guard }], guard := some (15, true) }) (v := ?_) rfl (by kernel_rfl) (by kernel_rfl) (by kernel_rfl) (by rfl) ?_ ?_
  rotate_left
  · intro W hW; refine Eq.trans (exec_load_row' 26 _ (by rfl) (by rfl) rt hW _ Try.underlying26 rfl (elInfo ht)) ?_; with_reducible rfl
  try simp only [Act.put, List.setIfInBounds_toArray, List.set_cons_zero, List.set_cons_succ]
  refine wpB_do (i := 18) (o := { dst := some 46, op := Op.call { callee := Callee.value (Operand.func 8), args := #[Operand.tmp 44, Operand.tmp 45], argTypes := #[26, 26] }, type := 4, pos := "law.go:126", after := #[{ on := 16, ground := Ground.data }, { on := 17, ground := Ground.data }, { on := 15, ground := Ground.chain }, { on := 15, ground := Ground.guard }], guard := some (15, true) }) (by kernel_rfl) rfl (by rfl) fun K hK => ?_
  go_simp
  refine (fsame_true _ _ xs t hxs ht (VS.out.trans ((law_square _ _).trans Vt.out.symm)) rfl rfl _).mono ?_
  rintro e w7_18 ⟨rfl, bx7_18⟩
  replace hB := stepB hB bx7_18
  refine hK.out _ _ hB ?_
  clear hK K
  try simp only [Act.put, List.setIfInBounds_toArray, List.set_cons_zero, List.set_cons_succ]
  refine wpB_take (hb := hB) (i := 19) (oi := { dst := some 47, op := Op.pick (Operand.tmp 43) (Operand.tmp 46) (Operand.const (Value.bool false)), type := 4, pos := "law.go:126", after := #[{ on := 15, ground := Ground.data }, { on := 18, ground := Ground.data }], guard := none }) (v := ?_) rfl (by kernel_rfl) (by kernel_rfl) (by kernel_rfl) (by rfl) ?_ ?_
  rotate_left
  · intro W hW; first | (go_simp; done) | (go_simp; with_reducible rfl)
  try simp only [Act.put, List.setIfInBounds_toArray, List.set_cons_zero, List.set_cons_succ]
  refine wpB_take (hb := hB) (i := 20) (oi := { dst := some 4, op := Op.assign (Operand.tmp 47), type := 4, pos := "law.go:126", after := #[{ on := 19, ground := Ground.data }, { on := 18, ground := Ground.chain }, { on := 0, ground := Ground.phase }, { on := 1, ground := Ground.phase }, { on := 2, ground := Ground.phase }, { on := 3, ground := Ground.phase }, { on := 4, ground := Ground.phase }, { on := 5, ground := Ground.phase }, { on := 6, ground := Ground.phase }, { on := 7, ground := Ground.phase }, { on := 8, ground := Ground.phase }, { on := 9, ground := Ground.phase }, { on := 10, ground := Ground.phase }, { on := 11, ground := Ground.phase }, { on := 12, ground := Ground.phase }, { on := 13, ground := Ground.phase }, { on := 14, ground := Ground.phase }, { on := 15, ground := Ground.phase }, { on := 16, ground := Ground.phase }, { on := 17, ground := Ground.phase }, { on := 18, ground := Ground.phase }, { on := 19, ground := Ground.phase }], guard := none }) (v := ?_) rfl (by kernel_rfl) (by kernel_rfl) (by kernel_rfl) (by rfl) ?_ ?_
  rotate_left
  · intro W hW; first | (go_simp; done) | (go_simp; with_reducible rfl)
  try simp only [Act.put, List.setIfInBounds_toArray, List.set_cons_zero, List.set_cons_succ]
  refine wpB_done (by kernel_rfl) ?_
  replace ra := ra.kept hB
  replace rb := rb.kept hB
  replace rxs := rxs.kept hB
  replace Rn := Rn.kept hB
  replace rt := rt.kept hB
  replace hbw := stepB hbw hB
  clear hB
  clear hx7_1 vx7_1 bx7_1 bx7_4 Rx7_4 bx7_5 hx7_9 vx7_9 bx7_9 hx7_10 vx7_10 bx7_10 hx7_12 vx7_12 bx7_12 bx7_13 bx7_18
  go_wp2
  go_ret
  exact ⟨rfl, hbw⟩
end Go.Proofs.Ytikkfmghjfddfab
