/- Two patterns that read alike are the same: contracts of the laws' own functions of layer 15, third part. -/
import Derived.Test.YtpoibhhijidobabGreatDoorQa
import Derived.Test.YtpoibhhijidobabGreatDoorBase
namespace Go.Proofs.YtpoibhhijidobabGreatDoor
open Go.ChangeShapes Go.WideShapes Go.ChangeAt Go.RowKit
set_option linter.unusedSimpArgs false
set_option linter.unusedVariables false

set_option maxRecDepth 100000 in
set_option maxHeartbeats 8000000 in
theorem sameP_any (p : Ptn) (vi vl ui ul : Value) (A B : Array Value) (hA : A = (ptC p vi vl).toArray) (hB : B = (ptC p ui ul).toArray) (w : World) (h : PtR w p vi vl) (g : PtR w p ui ul) :
    Calls Tryz.prog 11 #[.agg A, .agg B] w fun e w' => e = .returned (.bool true) ∧ Below w.heap.size w w' := by
  obtain ⟨ai, ci, rfl, hi2, hi3⟩ := h.lenI
  obtain ⟨al, cl, rfl, hl2, hl3⟩ := h.len
  obtain ⟨bi, di, rfl, gi2, gi3⟩ := g.lenI
  obtain ⟨bl, dl, rfl, gl2, gl3⟩ := g.len
  obtain ⟨n, hn⟩ : ∃ n : Nat, n = p.n := ⟨_, rfl⟩
  rw [← hn] at h g hA hB hi2 hl2 gi2 gl2
  have HN : Hid (n = p.n) := hn
  unfold maxLen at hi3 hl3 gi3 gl3
  obtain ⟨SB, hSB⟩ : ∃ B : ByteArray, B = ⟨p.name.toArray⟩ := ⟨_, rfl⟩
  have HP : Hid (PtR w p (.slice ai n ci) (.slice al n cl)) := h
  have HQ : Hid (PtR w p (.slice bi n di) (.slice bl n dl)) := g
  clear h g hn
  go_enter Tryz.func11, Tryz.ntmps11
  go_wp2_with (refine wpList_box_blk rfl 36 _ rfl (ptC p (.slice ai n ci) (.slice al n cl)) (by rw [← hA]; rfl) ?_)
  intro w1 r1 b1 s1
  go_wp2_with (refine wpList_box_blk rfl 36 _ rfl (ptC p (.slice bi n di) (.slice bl n dl)) (by rw [← hB]; rfl) ?_)
  intro w2 r2 b2 s2
  replace r1 := r1.kept b2
  have hbw := stepB b1 b2
  have x0 : w2.cell? ⟨w.heap.size, 0, none⟩ = some (.string SB) := by rw [hSB]; exact r1.cell 0
  have x1 : w2.cell? ⟨w.heap.size, 1, none⟩ = some (.bool p.ki) := r1.cell 1
  have x2 : w2.cell? ⟨w.heap.size, 2, none⟩ = some (.bool p.kr) := r1.cell 2
  have x4 : w2.cell? ⟨w.heap.size, 4, none⟩ = some (.slice al n cl) := r1.cell 4
  have y0 : w2.cell? ⟨w1.heap.size, 0, none⟩ = some (.string SB) := by rw [hSB]; exact r2.cell 0
  have y1 : w2.cell? ⟨w1.heap.size, 1, none⟩ = some (.bool p.ki) := r2.cell 1
  have y2 : w2.cell? ⟨w1.heap.size, 2, none⟩ = some (.bool p.kr) := r2.cell 2
  have y4 : w2.cell? ⟨w1.heap.size, 4, none⟩ = some (.slice bl n dl) := r2.cell 4
  have e1 : (p.ki != p.ki) = false := by simp
  have e2 : (p.kr != p.kr) = false := by simp
  clear b1 b2 s1 s2 hA hB hSB
  go_wp2
  go_loopw [5] (fun iv wx => ∃ i : Nat, i ≤ n ∧ iv = .int .i64 (i : Int) ∧ BlkAt w.heap.size 36 (ptC p (.slice ai n ci) (.slice al n cl)) wx ∧ BlkAt w1.heap.size 36 (ptC p (.slice bi n di) (.slice bl n dl)) wx ∧ Below w.heap.size w wx) (fun iv _ => n - (intOf iv).toNat)
  case atStart => exact ⟨0, by omega, rfl, r1, r2, hbw⟩
  case round =>
    obtain ⟨i, hi, rfl, ra, rb, hbx⟩ := hrel
    clear r1 r2 hbw x0 x1 x2 x4 y0 y1 y2 y4 e1 e2
    have x3 : wr.cell? ⟨w.heap.size, 3, none⟩ = some (.slice ai n ci) := ra.cell 3
    have x4 : wr.cell? ⟨w.heap.size, 4, none⟩ = some (.slice al n cl) := ra.cell 4
    have y3 : wr.cell? ⟨w1.heap.size, 3, none⟩ = some (.slice bi n di) := rb.cell 3
    have y4 : wr.cell? ⟨w1.heap.size, 4, none⟩ = some (.slice bl n dl) := rb.cell 4
    by_cases hlt : i < n
    · have hd : decide ((i : Int) < (n : Int)) = true := decide_eq_true (by omega)
      have hiI : (i : Int) < (n : Int) := by omega
      have hip : i < p.n := by rw [← HN.out]; exact hlt
      obtain ⟨q1, o1, rfl, c1⟩ := (HP.out.kept hbx).who hip
      obtain ⟨q2, o2, rfl, c2⟩ := (HQ.out.kept hbx).who hip
      obtain ⟨q3, o3, v3, rfl, c3, t3⟩ := (HP.out.kept hbx).row hip
      obtain ⟨q4, o4, v4, rfl, c4, t4⟩ := (HQ.out.kept hbx).row hip
      obtain ⟨a3, k3, rfl, h32, h33, -, h35⟩ := id t3
      obtain ⟨a4, k4, rfl, h42, h43, -, h45⟩ := id t4
      unfold maxLen at h33 h43
      have HT3 : Hid _ := t3
      have HT4 : Hid _ := t4
      generalize p.tk i = t at c3 c4 HT3 HT4 h32 h42
      have eq1 : (p.ini i != p.ini i) = false := by simp
      generalize p.ini i = bb at c1 c2 eq1
      have eq2 : ((t.length : Int) != (t.length : Int)) = false := by simp
      clear t3 t4 h35 h45 hip
      go_wp2_with fail
      refine wpG_begin (by kernel_rfl) ?_
      refine wpG_take (i := 0) (oi := { dst := some 42, op := Op.fieldAddr 36 (Operand.tmp 2) 3, type := 0, pos := "law.go:38", after := #[], guard := none }) (v := ?_) rfl (by kernel_rfl) (by kernel_rfl) (by kernel_rfl) (by rfl) ?_ ?_
      rotate_left
      · intro W hW; first | (go_simp; done) | (go_simp; with_reducible rfl)
      try simp only [Act.put, List.setIfInBounds_toArray, List.set_cons_zero, List.set_cons_succ]
      refine wpG_take (i := 1) (oi := { dst := some 43, op := Op.load 33 (Operand.tmp 42), type := 33, pos := "law.go:38", after := #[{ on := 0, ground := Ground.data }], guard := none }) (v := ?_) rfl (by kernel_rfl) (by kernel_rfl) (by kernel_rfl) (by rfl) ?_ ?_
      rotate_left
      · intro W hW; have hcW := cellDK15 x3 hW; first | (go_simp; done) | (go_simp; with_reducible rfl)
      try simp only [Act.put, List.setIfInBounds_toArray, List.set_cons_zero, List.set_cons_succ]
      refine wpG_take (i := 2) (oi := { dst := some 44, op := Op.move (Operand.tmp 5), type := 3, pos := "law.go:38", after := #[], guard := none }) (v := ?_) rfl (by kernel_rfl) (by kernel_rfl) (by kernel_rfl) (by rfl) ?_ ?_
      rotate_left
      · intro W hW; first | (go_simp; done) | (go_simp; with_reducible rfl)
      try simp only [Act.put, List.setIfInBounds_toArray, List.set_cons_zero, List.set_cons_succ]
      refine wpG_take (i := 3) (oi := { dst := some 45, op := Op.indexAddr 33 (Operand.tmp 43) (Operand.tmp 44), type := 0, pos := "law.go:38", after := #[{ on := 1, ground := Ground.data }, { on := 2, ground := Ground.data }], guard := none }) (v := ?_) rfl (by kernel_rfl) (by kernel_rfl) (by kernel_rfl) (by rfl) ?_ ?_
      rotate_left
      · intro W hW; first | (go_simp; done) | (go_simp; with_reducible rfl)
      try simp only [Act.put, List.setIfInBounds_toArray, List.set_cons_zero, List.set_cons_succ]
      refine wpG_take (i := 4) (oi := { dst := some 46, op := Op.load 4 (Operand.tmp 45), type := 4, pos := "law.go:38", after := #[{ on := 3, ground := Ground.data }], guard := none }) (v := ?_) rfl (by kernel_rfl) (by kernel_rfl) (by kernel_rfl) (by rfl) ?_ ?_
      rotate_left
      · intro W hW; have hcW := cellDK15 c1 hW; first | (go_simp; done) | (go_simp; with_reducible rfl)
      try simp only [Act.put, List.setIfInBounds_toArray, List.set_cons_zero, List.set_cons_succ]
      refine wpG_take (i := 5) (oi := { dst := some 47, op := Op.fieldAddr 36 (Operand.tmp 3) 3, type := 0, pos := "law.go:38", after := #[], guard := none }) (v := ?_) rfl (by kernel_rfl) (by kernel_rfl) (by kernel_rfl) (by rfl) ?_ ?_
      rotate_left
      · intro W hW; first | (go_simp; done) | (go_simp; with_reducible rfl)
      try simp only [Act.put, List.setIfInBounds_toArray, List.set_cons_zero, List.set_cons_succ]
      refine wpG_take (i := 6) (oi := { dst := some 48, op := Op.load 33 (Operand.tmp 47), type := 33, pos := "law.go:38", after := #[{ on := 5, ground := Ground.data }], guard := none }) (v := ?_) rfl (by kernel_rfl) (by kernel_rfl) (by kernel_rfl) (by rfl) ?_ ?_
      rotate_left
      · intro W hW; have hcW := cellDK15 y3 hW; first | (go_simp; done) | (go_simp; with_reducible rfl)
      try simp only [Act.put, List.setIfInBounds_toArray, List.set_cons_zero, List.set_cons_succ]
      refine wpG_take (i := 7) (oi := { dst := some 49, op := Op.move (Operand.tmp 5), type := 3, pos := "law.go:38", after := #[], guard := none }) (v := ?_) rfl (by kernel_rfl) (by kernel_rfl) (by kernel_rfl) (by rfl) ?_ ?_
      rotate_left
      · intro W hW; first | (go_simp; done) | (go_simp; with_reducible rfl)
      try simp only [Act.put, List.setIfInBounds_toArray, List.set_cons_zero, List.set_cons_succ]
      refine wpG_take (i := 8) (oi := { dst := some 50, op := Op.indexAddr 33 (Operand.tmp 48) (Operand.tmp 49), type := 0, pos := "law.go:38", after := #[{ on := 6, ground := Ground.data }, { on := 7, ground := Ground.data }], guard := none }) (v := ?_) rfl (by kernel_rfl) (by kernel_rfl) (by kernel_rfl) (by rfl) ?_ ?_
      rotate_left
      · intro W hW; first | (go_simp; done) | (go_simp; with_reducible rfl)
      try simp only [Act.put, List.setIfInBounds_toArray, List.set_cons_zero, List.set_cons_succ]
      refine wpG_take (i := 9) (oi := { dst := some 51, op := Op.load 4 (Operand.tmp 50), type := 4, pos := "law.go:38", after := #[{ on := 8, ground := Ground.data }], guard := none }) (v := ?_) rfl (by kernel_rfl) (by kernel_rfl) (by kernel_rfl) (by rfl) ?_ ?_
      rotate_left
      · intro W hW; have hcW := cellDK15 c2 hW; first | (go_simp; done) | (go_simp; with_reducible rfl)
      try simp only [Act.put, List.setIfInBounds_toArray, List.set_cons_zero, List.set_cons_succ]
      refine wpG_take (i := 10) (oi := { dst := some 52, op := Op.binOp BinOp.neq 4 (Operand.tmp 46) (Operand.tmp 51) 4, type := 4, pos := "law.go:38", after := #[{ on := 4, ground := Ground.data }, { on := 9, ground := Ground.data }], guard := none }) (v := ?_) rfl (by kernel_rfl) (by kernel_rfl) (by kernel_rfl) (by rfl) ?_ ?_
      rotate_left
      · intro W hW; first | (go_simp; done) | (go_simp; with_reducible rfl)
      try simp only [Act.put, List.setIfInBounds_toArray, List.set_cons_zero, List.set_cons_succ]
      refine wpG_take (i := 11) (oi := { dst := some 53, op := Op.move (Operand.tmp 52), type := 4, pos := "law.go:38", after := #[{ on := 10, ground := Ground.data }], guard := none }) (v := ?_) rfl (by kernel_rfl) (by kernel_rfl) (by kernel_rfl) (by rfl) ?_ ?_
      rotate_left
      · intro W hW; first | (go_simp; done) | (go_simp; with_reducible rfl)
      try simp only [Act.put, List.setIfInBounds_toArray, List.set_cons_zero, List.set_cons_succ]
      refine wpG_take (i := 12) (oi := { dst := some 54, op := Op.fieldAddr 36 (Operand.tmp 2) 4, type := 0, pos := "law.go:38", after := #[{ on := 11, ground := Ground.guard }], guard := some (11, false) }) (v := ?_) rfl (by kernel_rfl) (by kernel_rfl) (by kernel_rfl) (by rfl) ?_ ?_
      rotate_left
      · intro W hW; first | (go_simp; done) | (go_simp; with_reducible rfl)
      try simp only [Act.put, List.setIfInBounds_toArray, List.set_cons_zero, List.set_cons_succ]
      refine wpG_take (i := 13) (oi := { dst := some 55, op := Op.load 34 (Operand.tmp 54), type := 34, pos := "law.go:38", after := #[{ on := 12, ground := Ground.data }, { on := 11, ground := Ground.guard }], guard := some (11, false) }) (v := ?_) rfl (by kernel_rfl) (by kernel_rfl) (by kernel_rfl) (by rfl) ?_ ?_
      rotate_left
      · intro W hW; have hcW := cellDK15 x4 hW; first | (go_simp; done) | (go_simp; with_reducible rfl)
      try simp only [Act.put, List.setIfInBounds_toArray, List.set_cons_zero, List.set_cons_succ]
      refine wpG_take (i := 14) (oi := { dst := some 56, op := Op.move (Operand.tmp 5), type := 3, pos := "law.go:38", after := #[{ on := 11, ground := Ground.guard }], guard := some (11, false) }) (v := ?_) rfl (by kernel_rfl) (by kernel_rfl) (by kernel_rfl) (by rfl) ?_ ?_
      rotate_left
      · intro W hW; first | (go_simp; done) | (go_simp; with_reducible rfl)
      try simp only [Act.put, List.setIfInBounds_toArray, List.set_cons_zero, List.set_cons_succ]
      refine wpG_take (i := 15) (oi := { dst := some 57, op := Op.indexAddr 34 (Operand.tmp 55) (Operand.tmp 56), type := 0, pos := "law.go:38", after := #[{ on := 13, ground := Ground.data }, { on := 14, ground := Ground.data }, { on := 11, ground := Ground.guard }], guard := some (11, false) }) (v := ?_) rfl (by kernel_rfl) (by kernel_rfl) (by kernel_rfl) (by rfl) ?_ ?_
      rotate_left
      · intro W hW; first | (go_simp; done) | (go_simp; with_reducible rfl)
      try simp only [Act.put, List.setIfInBounds_toArray, List.set_cons_zero, List.set_cons_succ]
      refine wpG_take (i := 16) (oi := { dst := some 58, op := Op.load 63 (Operand.tmp 57), type := 63, pos := "law.go:38", after := #[{ on := 15, ground := Ground.data }, { on := 11, ground := Ground.guard }], guard := some (11, false) }) (v := ?_) rfl (by kernel_rfl) (by kernel_rfl) (by kernel_rfl) (by rfl) ?_ ?_
      rotate_left
      · intro W hW; have hcW := cellDK15 c3 hW; first | (go_simp; done) | (go_simp; with_reducible rfl)
      try simp only [Act.put, List.setIfInBounds_toArray, List.set_cons_zero, List.set_cons_succ]
      refine wpG_take (i := 17) (oi := { dst := some 59, op := Op.call { callee := Callee.builtin Builtin.len, args := #[Operand.tmp 58], argTypes := #[63] }, type := 3, pos := "law.go:38", after := #[{ on := 16, ground := Ground.data }, { on := 11, ground := Ground.guard }], guard := some (11, false) }) (v := ?_) rfl (by kernel_rfl) (by kernel_rfl) (by kernel_rfl) (by rfl) ?_ ?_
      rotate_left
      · intro W hW; first | (go_simp; done) | (go_simp; with_reducible rfl)
      try simp only [Act.put, List.setIfInBounds_toArray, List.set_cons_zero, List.set_cons_succ]
      refine wpG_take (i := 18) (oi := { dst := some 60, op := Op.fieldAddr 36 (Operand.tmp 3) 4, type := 0, pos := "law.go:38", after := #[{ on := 11, ground := Ground.guard }], guard := some (11, false) }) (v := ?_) rfl (by kernel_rfl) (by kernel_rfl) (by kernel_rfl) (by rfl) ?_ ?_
      rotate_left
      · intro W hW; first | (go_simp; done) | (go_simp; with_reducible rfl)
      try simp only [Act.put, List.setIfInBounds_toArray, List.set_cons_zero, List.set_cons_succ]
      refine wpG_take (i := 19) (oi := { dst := some 61, op := Op.load 34 (Operand.tmp 60), type := 34, pos := "law.go:38", after := #[{ on := 18, ground := Ground.data }, { on := 11, ground := Ground.guard }], guard := some (11, false) }) (v := ?_) rfl (by kernel_rfl) (by kernel_rfl) (by kernel_rfl) (by rfl) ?_ ?_
      rotate_left
      · intro W hW; have hcW := cellDK15 y4 hW; first | (go_simp; done) | (go_simp; with_reducible rfl)
      try simp only [Act.put, List.setIfInBounds_toArray, List.set_cons_zero, List.set_cons_succ]
      refine wpG_take (i := 20) (oi := { dst := some 62, op := Op.move (Operand.tmp 5), type := 3, pos := "law.go:38", after := #[{ on := 11, ground := Ground.guard }], guard := some (11, false) }) (v := ?_) rfl (by kernel_rfl) (by kernel_rfl) (by kernel_rfl) (by rfl) ?_ ?_
      rotate_left
      · intro W hW; first | (go_simp; done) | (go_simp; with_reducible rfl)
      try simp only [Act.put, List.setIfInBounds_toArray, List.set_cons_zero, List.set_cons_succ]
      refine wpG_take (i := 21) (oi := { dst := some 63, op := Op.indexAddr 34 (Operand.tmp 61) (Operand.tmp 62), type := 0, pos := "law.go:38", after := #[{ on := 19, ground := Ground.data }, { on := 20, ground := Ground.data }, { on := 11, ground := Ground.guard }], guard := some (11, false) }) (v := ?_) rfl (by kernel_rfl) (by kernel_rfl) (by kernel_rfl) (by rfl) ?_ ?_
      rotate_left
      · intro W hW; first | (go_simp; done) | (go_simp; with_reducible rfl)
      try simp only [Act.put, List.setIfInBounds_toArray, List.set_cons_zero, List.set_cons_succ]
      refine wpG_take (i := 22) (oi := { dst := some 64, op := Op.load 63 (Operand.tmp 63), type := 63, pos := "law.go:38", after := #[{ on := 21, ground := Ground.data }, { on := 11, ground := Ground.guard }], guard := some (11, false) }) (v := ?_) rfl (by kernel_rfl) (by kernel_rfl) (by kernel_rfl) (by rfl) ?_ ?_
      rotate_left
      · intro W hW; have hcW := cellDK15 c4 hW; first | (go_simp; done) | (go_simp; with_reducible rfl)
      try simp only [Act.put, List.setIfInBounds_toArray, List.set_cons_zero, List.set_cons_succ]
      refine wpG_take (i := 23) (oi := { dst := some 65, op := Op.call { callee := Callee.builtin Builtin.len, args := #[Operand.tmp 64], argTypes := #[63] }, type := 3, pos := "law.go:38", after := #[{ on := 22, ground := Ground.data }, { on := 11, ground := Ground.guard }], guard := some (11, false) }) (v := ?_) rfl (by kernel_rfl) (by kernel_rfl) (by kernel_rfl) (by rfl) ?_ ?_
      rotate_left
      · intro W hW; first | (go_simp; done) | (go_simp; with_reducible rfl)
      try simp only [Act.put, List.setIfInBounds_toArray, List.set_cons_zero, List.set_cons_succ]
      refine wpG_take (i := 24) (oi := { dst := some 66, op := Op.binOp BinOp.neq 3 (Operand.tmp 59) (Operand.tmp 65) 3, type := 4, pos := "law.go:38", after := #[{ on := 17, ground := Ground.data }, { on := 23, ground := Ground.data }, { on := 11, ground := Ground.guard }], guard := some (11, false) }) (v := ?_) rfl (by kernel_rfl) (by kernel_rfl) (by kernel_rfl) (by rfl) ?_ ?_
      rotate_left
      · intro W hW; first | (go_simp; done) | (go_simp; with_reducible rfl)
      try simp only [Act.put, List.setIfInBounds_toArray, List.set_cons_zero, List.set_cons_succ]
      refine wpG_take (i := 25) (oi := { dst := some 67, op := Op.pick (Operand.tmp 53) (Operand.const (Value.bool true)) (Operand.tmp 66), type := 4, pos := "law.go:38", after := #[{ on := 11, ground := Ground.data }, { on := 24, ground := Ground.data }], guard := none }) (v := ?_) rfl (by kernel_rfl) (by kernel_rfl) (by kernel_rfl) (by rfl) ?_ ?_
      rotate_left
      · intro W hW; first | (go_simp; done) | (go_simp; with_reducible rfl)
      try simp only [Act.put, List.setIfInBounds_toArray, List.set_cons_zero, List.set_cons_succ]
      refine wpG_done (by kernel_rfl) ?_
      replace ra := ra.drew
      replace rb := rb.drew
      replace hbx := hbx.drew
      have HT3d : Hid (RdI .i64 wr.drew (.slice a3 t.length k3) t) := RdI.drew HT3.out
      have HT4d : Hid (RdI .i64 wr.drew (.slice a4 t.length k4) t) := RdI.drew HT4.out
      have c3d : wr.drew.cell? ⟨q3, o3 + i, none⟩ = some (.slice a3 t.length k3) := c3
      have c4d : wr.drew.cell? ⟨q4, o4 + i, none⟩ = some (.slice a4 t.length k4) := c4
      have x4d : wr.drew.cell? ⟨w.heap.size, 4, none⟩ = some (.slice (some ⟨q3, o3, none⟩) n cl) := x4
      have y4d : wr.drew.cell? ⟨w1.heap.size, 4, none⟩ = some (.slice (some ⟨q4, o4, none⟩) n dl) := y4
      generalize wr.drew = W at ra rb hbx HT3d HT4d c3d c4d x4d y4d ⊢
      clear HT3 HT4 c1 c2 c3 c4 x3 x4 y3 y4 eq1 eq2
      go_wp2
      go_loopw [6] (fun jv wx => ∃ j : Nat, j ≤ t.length ∧ jv = .int .i64 (j : Int) ∧ Below W.heap.size W wx) (fun jv _ => t.length - (intOf jv).toNat)
      case atStart => exact ⟨0, by omega, rfl, Below.refl _ _⟩
      case round =>
        obtain ⟨j, hj, rfl, hbj⟩ := hrel
        have c3j : wr.cell? ⟨q3, o3 + i, none⟩ = some (.slice a3 t.length k3) := by rw [hbj.cell (World.block_lt_of_cell? _ _ c3d)]; exact c3d
        have c4j : wr.cell? ⟨q4, o4 + i, none⟩ = some (.slice a4 t.length k4) := by rw [hbj.cell (World.block_lt_of_cell? _ _ c4d)]; exact c4d
        have x4j : wr.cell? ⟨w.heap.size, 4, none⟩ = some (.slice (some ⟨q3, o3, none⟩) n cl) := by rw [hbj.cell (World.block_lt_of_cell? _ _ x4d)]; exact x4d
        have y4j : wr.cell? ⟨w1.heap.size, 4, none⟩ = some (.slice (some ⟨q4, o4, none⟩) n dl) := by rw [hbj.cell (World.block_lt_of_cell? _ _ y4d)]; exact y4d
        clear c3d c4d x4d y4d
        by_cases hjt : j < t.length
        · have hd2 : decide ((j : Int) < (t.length : Int)) = true := decide_eq_true (by omega)
          have hjI : (j : Int) < (t.length : Int) := by omega
          obtain ⟨b5, f5, p5, ev, -, c5, -⟩ := (RdI.kept HT3d.out hbj).cellAt hjt
          simp only [Value.slice.injEq] at ev
          obtain ⟨rfl, -, -⟩ := ev
          obtain ⟨b6, f6, p6, ev, -, c6, -⟩ := (RdI.kept HT4d.out hbj).cellAt hjt
          simp only [Value.slice.injEq] at ev
          obtain ⟨rfl, -, -⟩ := ev
          generalize t.getD j 0 = z at c5 c6
          have ez : (z != z) = false := by simp
          go_wp2_with fail
          refine wpG_begin (by kernel_rfl) ?_
          refine wpG_take (i := 0) (oi := { dst := some 78, op := Op.fieldAddr 36 (Operand.tmp 2) 4, type := 0, pos := "law.go:42", after := #[], guard := none }) (v := ?_) rfl (by kernel_rfl) (by kernel_rfl) (by kernel_rfl) (by rfl) ?_ ?_
          rotate_left
          · intro W hW; first | (go_simp; done) | (go_simp; with_reducible rfl)
          try simp only [Act.put, List.setIfInBounds_toArray, List.set_cons_zero, List.set_cons_succ]
          refine wpG_take (i := 1) (oi := { dst := some 79, op := Op.load 34 (Operand.tmp 78), type := 34, pos := "law.go:42", after := #[{ on := 0, ground := Ground.data }], guard := none }) (v := ?_) rfl (by kernel_rfl) (by kernel_rfl) (by kernel_rfl) (by rfl) ?_ ?_
          rotate_left
          · intro W hW; have hcW := cellDK15 x4j hW; first | (go_simp; done) | (go_simp; with_reducible rfl)
          try simp only [Act.put, List.setIfInBounds_toArray, List.set_cons_zero, List.set_cons_succ]
          refine wpG_take (i := 2) (oi := { dst := some 80, op := Op.move (Operand.tmp 5), type := 3, pos := "law.go:42", after := #[], guard := none }) (v := ?_) rfl (by kernel_rfl) (by kernel_rfl) (by kernel_rfl) (by rfl) ?_ ?_
          rotate_left
          · intro W hW; first | (go_simp; done) | (go_simp; with_reducible rfl)
          try simp only [Act.put, List.setIfInBounds_toArray, List.set_cons_zero, List.set_cons_succ]
          refine wpG_take (i := 3) (oi := { dst := some 81, op := Op.indexAddr 34 (Operand.tmp 79) (Operand.tmp 80), type := 0, pos := "law.go:42", after := #[{ on := 1, ground := Ground.data }, { on := 2, ground := Ground.data }], guard := none }) (v := ?_) rfl (by kernel_rfl) (by kernel_rfl) (by kernel_rfl) (by rfl) ?_ ?_
          rotate_left
          · intro W hW; first | (go_simp; done) | (go_simp; with_reducible rfl)
          try simp only [Act.put, List.setIfInBounds_toArray, List.set_cons_zero, List.set_cons_succ]
          refine wpG_take (i := 4) (oi := { dst := some 82, op := Op.load 63 (Operand.tmp 81), type := 63, pos := "law.go:42", after := #[{ on := 3, ground := Ground.data }], guard := none }) (v := ?_) rfl (by kernel_rfl) (by kernel_rfl) (by kernel_rfl) (by rfl) ?_ ?_
          rotate_left
          · intro W hW; have hcW := cellDK15 c3j hW; first | (go_simp; done) | (go_simp; with_reducible rfl)
          try simp only [Act.put, List.setIfInBounds_toArray, List.set_cons_zero, List.set_cons_succ]
          refine wpG_take (i := 5) (oi := { dst := some 83, op := Op.move (Operand.tmp 6), type := 3, pos := "law.go:42", after := #[], guard := none }) (v := ?_) rfl (by kernel_rfl) (by kernel_rfl) (by kernel_rfl) (by rfl) ?_ ?_
          rotate_left
          · intro W hW; first | (go_simp; done) | (go_simp; with_reducible rfl)
          try simp only [Act.put, List.setIfInBounds_toArray, List.set_cons_zero, List.set_cons_succ]
          refine wpG_take (i := 6) (oi := { dst := some 84, op := Op.indexAddr 63 (Operand.tmp 82) (Operand.tmp 83), type := 0, pos := "law.go:42", after := #[{ on := 4, ground := Ground.data }, { on := 5, ground := Ground.data }], guard := none }) (v := ?_) rfl (by kernel_rfl) (by kernel_rfl) (by kernel_rfl) (by rfl) ?_ ?_
          rotate_left
          · intro W hW; first | (go_simp; done) | (go_simp; with_reducible rfl)
          try simp only [Act.put, List.setIfInBounds_toArray, List.set_cons_zero, List.set_cons_succ]
          refine wpG_take (i := 7) (oi := { dst := some 85, op := Op.load 3 (Operand.tmp 84), type := 3, pos := "law.go:42", after := #[{ on := 6, ground := Ground.data }], guard := none }) (v := ?_) rfl (by kernel_rfl) (by kernel_rfl) (by kernel_rfl) (by rfl) ?_ ?_
          rotate_left
          · intro W hW; have hcW := cellDK15 c5 hW; first | (go_simp; done) | (go_simp; with_reducible rfl)
          try simp only [Act.put, List.setIfInBounds_toArray, List.set_cons_zero, List.set_cons_succ]
          refine wpG_take (i := 8) (oi := { dst := some 86, op := Op.fieldAddr 36 (Operand.tmp 3) 4, type := 0, pos := "law.go:42", after := #[], guard := none }) (v := ?_) rfl (by kernel_rfl) (by kernel_rfl) (by kernel_rfl) (by rfl) ?_ ?_
          rotate_left
          · intro W hW; first | (go_simp; done) | (go_simp; with_reducible rfl)
          try simp only [Act.put, List.setIfInBounds_toArray, List.set_cons_zero, List.set_cons_succ]
          refine wpG_take (i := 9) (oi := { dst := some 87, op := Op.load 34 (Operand.tmp 86), type := 34, pos := "law.go:42", after := #[{ on := 8, ground := Ground.data }], guard := none }) (v := ?_) rfl (by kernel_rfl) (by kernel_rfl) (by kernel_rfl) (by rfl) ?_ ?_
          rotate_left
          · intro W hW; have hcW := cellDK15 y4j hW; first | (go_simp; done) | (go_simp; with_reducible rfl)
          try simp only [Act.put, List.setIfInBounds_toArray, List.set_cons_zero, List.set_cons_succ]
          refine wpG_take (i := 10) (oi := { dst := some 88, op := Op.move (Operand.tmp 5), type := 3, pos := "law.go:42", after := #[], guard := none }) (v := ?_) rfl (by kernel_rfl) (by kernel_rfl) (by kernel_rfl) (by rfl) ?_ ?_
          rotate_left
          · intro W hW; first | (go_simp; done) | (go_simp; with_reducible rfl)
          try simp only [Act.put, List.setIfInBounds_toArray, List.set_cons_zero, List.set_cons_succ]
          refine wpG_take (i := 11) (oi := { dst := some 89, op := Op.indexAddr 34 (Operand.tmp 87) (Operand.tmp 88), type := 0, pos := "law.go:42", after := #[{ on := 9, ground := Ground.data }, { on := 10, ground := Ground.data }], guard := none }) (v := ?_) rfl (by kernel_rfl) (by kernel_rfl) (by kernel_rfl) (by rfl) ?_ ?_
          rotate_left
          · intro W hW; first | (go_simp; done) | (go_simp; with_reducible rfl)
          try simp only [Act.put, List.setIfInBounds_toArray, List.set_cons_zero, List.set_cons_succ]
          refine wpG_take (i := 12) (oi := { dst := some 90, op := Op.load 63 (Operand.tmp 89), type := 63, pos := "law.go:42", after := #[{ on := 11, ground := Ground.data }], guard := none }) (v := ?_) rfl (by kernel_rfl) (by kernel_rfl) (by kernel_rfl) (by rfl) ?_ ?_
          rotate_left
          · intro W hW; have hcW := cellDK15 c4j hW; first | (go_simp; done) | (go_simp; with_reducible rfl)
          try simp only [Act.put, List.setIfInBounds_toArray, List.set_cons_zero, List.set_cons_succ]
          refine wpG_take (i := 13) (oi := { dst := some 91, op := Op.move (Operand.tmp 6), type := 3, pos := "law.go:42", after := #[], guard := none }) (v := ?_) rfl (by kernel_rfl) (by kernel_rfl) (by kernel_rfl) (by rfl) ?_ ?_
          rotate_left
          · intro W hW; first | (go_simp; done) | (go_simp; with_reducible rfl)
          try simp only [Act.put, List.setIfInBounds_toArray, List.set_cons_zero, List.set_cons_succ]
          refine wpG_take (i := 14) (oi := { dst := some 92, op := Op.indexAddr 63 (Operand.tmp 90) (Operand.tmp 91), type := 0, pos := "law.go:42", after := #[{ on := 12, ground := Ground.data }, { on := 13, ground := Ground.data }], guard := none }) (v := ?_) rfl (by kernel_rfl) (by kernel_rfl) (by kernel_rfl) (by rfl) ?_ ?_
          rotate_left
          · intro W hW; first | (go_simp; done) | (go_simp; with_reducible rfl)
          try simp only [Act.put, List.setIfInBounds_toArray, List.set_cons_zero, List.set_cons_succ]
          refine wpG_take (i := 15) (oi := { dst := some 93, op := Op.load 3 (Operand.tmp 92), type := 3, pos := "law.go:42", after := #[{ on := 14, ground := Ground.data }], guard := none }) (v := ?_) rfl (by kernel_rfl) (by kernel_rfl) (by kernel_rfl) (by rfl) ?_ ?_
          rotate_left
          · intro W hW; have hcW := cellDK15 c6 hW; first | (go_simp; done) | (go_simp; with_reducible rfl)
          try simp only [Act.put, List.setIfInBounds_toArray, List.set_cons_zero, List.set_cons_succ]
          refine wpG_take (i := 16) (oi := { dst := some 94, op := Op.binOp BinOp.neq 3 (Operand.tmp 85) (Operand.tmp 93) 3, type := 4, pos := "law.go:42", after := #[{ on := 7, ground := Ground.data }, { on := 15, ground := Ground.data }], guard := none }) (v := ?_) rfl (by kernel_rfl) (by kernel_rfl) (by kernel_rfl) (by rfl) ?_ ?_
          rotate_left
          · intro W hW; first | (go_simp; done) | (go_simp; with_reducible rfl)
          try simp only [Act.put, List.setIfInBounds_toArray, List.set_cons_zero, List.set_cons_succ]
          refine wpG_done (by kernel_rfl) ?_
          go_wp2
          go_roundw
          case rel => exact ⟨j + 1, by omega, by go_num, hbj.drew⟩
          case measure => simp [intOf] <;> omega
        · have hd2 : decide ((j : Int) < (t.length : Int)) = false := decide_eq_false (by omega)
          have hjI : (t.length : Int) ≤ (j : Int) := by omega
          have ra2 := ra.kept hbj
          have rb2 := rb.kept hbj
          have hbx2 := stepB hbx hbj
          clear ra rb
          go_wp2
          go_roundw
          case rel => exact ⟨i + 1, by omega, by go_num, ra2, rb2, hbx2⟩
          case measure => simp [intOf] <;> omega
    · have hd : decide ((i : Int) < (n : Int)) = false := decide_eq_false (by omega)
      have hiI : (n : Int) ≤ (i : Int) := by omega
      go_wp2
      go_ret
      exact ⟨rfl, hbx⟩
end Go.Proofs.YtpoibhhijidobabGreatDoor
