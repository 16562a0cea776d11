/- Rests told as members of the field; rests, sums and differences of polynomials: contracts of package ntt, second part. -/
import Derived.Test.YtbladcgdbhogcabDoorN11a
namespace Go.Proofs.YtbladcgdbhogcabDoor
open Go.ChangeShapes Go.WideShapes Go.ChangeAt Go.RowKit
set_option linter.unusedSimpArgs false
set_option linter.unusedVariables false

theorem cellD11 {w W : World} {p : Addr} {v : Value} (h : w.cell? p = some v) (hb : Below w.drew.heap.size w.drew W) : W.cell? p = some v := cellB11 (w := w.drew) h hb
/-- What a number stands for. -/
def ni (x : Int) : FZ := nz (rsZ x)
theorem ni_val (x : Int) : (ni x).val = rsZ x := by
  unfold ni
  rw [nz_val, Nat.mod_eq_of_lt (rsZ_lt x)]
theorem ni_fz (v : FZ) : ni ((v.val : Nat) : Int) = v := by
  refine Fin.ext ?_
  rw [ni_val, rsZ_nat]
  exact Nat.mod_eq_of_lt v.isLt
theorem ni_rF (F : Nat → Int) (k : Nat) : ni (F k) = rF F k := rfl
theorem in64_fz (v : FZ) : In64 ((v.val : Nat) : Int) := by have := v.isLt; exact ⟨by omega, by omega⟩
theorem ni_add (a b : Int) : (ni a + ni b).val = rsZ (a + b) := by rw [fz_val_add, ni_val, ni_val, rs_add]
theorem ni_sub (a b : Int) : (ni a - ni b).val = rsZ (a - b) := by rw [fz_val_sub, ni_val, ni_val, rs_sub]
theorem ni_mul (a b : Int) : (ni a * ni b).val = rsZ (a * b) := by rw [fz_val_mul, ni_val, ni_val, rs_mul]
theorem zmodF (a : Int) (ha : In64 a) (w : World) :
    Calls Tryd.prog 15 #[.int .i64 a] w fun e w' => e = .returned (.int .i64 (((ni a).val : Nat) : Int)) ∧ w' = w := by rw [ni_val]; exact zmod_any a ha w
theorem zaddF (a b : Int) (ha : In64 a) (hb : In64 b) (w : World) :
    Calls Tryd.prog 28 #[.int .i64 a, .int .i64 b] w fun e w' => e = .returned (.int .i64 (((ni a + ni b).val : Nat) : Int)) ∧ w' = w := by rw [ni_add]; exact zadd_any a b ha hb w
theorem zsubF (a b : Int) (ha : In64 a) (hb : In64 b) (w : World) :
    Calls Tryd.prog 7 #[.int .i64 a, .int .i64 b] w fun e w' => e = .returned (.int .i64 (((ni a - ni b).val : Nat) : Int)) ∧ w' = w := by rw [ni_sub]; exact zsub_any a b ha hb w
theorem zmulF (a b : Int) (ha : In64 a) (hb : In64 b) (w : World) :
    Calls Tryd.prog 6 #[.int .i64 a, .int .i64 b] w fun e w' => e = .returned (.int .i64 (((ni a * ni b).val : Nat) : Int)) ∧ w' = w := by rw [ni_mul]; exact zmul_any a b ha hb w
theorem zt_val (i : Nat) (h : i < 128) : (zt i).val = 17 ^ tnJ (twZ 7 (i : Int)) 7 % 3329 := by
  have e : twZ 7 (i : Int) = i := by unfold twZ; omega
  rw [e]
  unfold zt
  have := pz_nz 17 (tnJ i 7)
  rw [show nz 17 = 17 from rfl] at this
  rw [← this, nz_val]
theorem zzetaF (i : Nat) (h : i < 128) (w : World) (hT : PwT w) :
    Calls Tryd.prog 19 #[.int .i64 (i : Int)] w fun e w' => e = .returned (.int .i64 (((zt i).val : Nat) : Int)) ∧ w' = w := by rw [zt_val i h]; exact zzeta_any _ ⟨by omega, by omega⟩ w hT

set_option maxHeartbeats 1000000 in
theorem cclean_any (F : Nat → Int) (hF : Po F) (g : Nat) (i : Nat) (hi : i < 256) (w : World) (r : RowAt .i64 24 g 256 (gI F) w) :
    Calls Tryd.prog 32 #[.int .i64 (i : Int), .pointer (some ⟨g, 0, none⟩)] w fun e w' => e = .returned (.int .i64 (((rF F i).val : Nat) : Int)) ∧ Below w.heap.size w w' := by
  have hc := r.cell (j := i) (by rw [gI_length]; exact hi)
  rw [gI_get _ hi] at hc
  have hiI : (i : Int) < 256 := by omega
  have HF : Hid _ := hF.in64 i
  have HE : Hid (ni (F i) = rF F i) := ni_rF F i
  clear r hF
  go_enter Tryd.func32, Tryd.ntmps32
  go_wp2_with fail
  refine (zmodF (F i) HF.out _).mono ?_
  rintro e w1 ⟨rfl, rfl⟩
  go_wp2
  go_ret
  exact ⟨retZ (by rw [HE.out]), Below.refl _ _⟩

set_option maxRecDepth 100000 in
set_option maxHeartbeats 1000000 in
theorem cplus_any (F G : Nat → Int) (hF : Po F) (hG : Po G) (g h : Nat) (i : Nat) (hi : i < 256) (w : World) (r : RowAt .i64 24 g 256 (gI F) w) (s : RowAt .i64 24 h 256 (gI G) w) :
    Calls Tryd.prog 30 #[.int .i64 (i : Int), .pointer (some ⟨g, 0, none⟩), .pointer (some ⟨h, 0, none⟩)] w fun e w' => e = .returned (.int .i64 (((rF F i + rF G i).val : Nat) : Int)) ∧ Below w.heap.size w w' := by
  have hc := r.cell (j := i) (by rw [gI_length]; exact hi)
  have hd := s.cell (j := i) (by rw [gI_length]; exact hi)
  rw [gI_get _ hi] at hc hd
  have hiI : (i : Int) < 256 := by omega
  have HF : Hid _ := hF.in64 i
  have HG : Hid _ := hG.in64 i
  have HE : Hid (ni (F i) + ni (G i) = rF F i + rF G i) := by show _ = _; rfl
  clear r s hF hG
  go_enter Tryd.func30, Tryd.ntmps30
  go_wp2_with fail
  refine wpG_begin (by kernel_rfl) ?_
  refine wpG_take (i := 0) (oi := { dst := some 5, op := Op.move (Operand.tmp 0), type := 3, pos := "ntt.go:38", after := #[], guard := none }) (v := ?_) rfl (by kernel_rfl) (by kernel_rfl) (by kernel_rfl) (by rfl) ?_ ?_
  rotate_left
  · intro W hW; first | (go_simp; done) | (go_simp; with_reducible rfl)
  try simp only [Act.put, List.setIfInBounds_toArray, List.set_cons_zero, List.set_cons_succ]
  refine wpG_take (i := 1) (oi := { dst := some 6, op := Op.indexAddr 24 (Operand.tmp 1) (Operand.tmp 5), type := 0, pos := "ntt.go:38", after := #[{ on := 0, ground := Ground.data }], guard := none }) (v := ?_) rfl (by kernel_rfl) (by kernel_rfl) (by kernel_rfl) (by rfl) ?_ ?_
  rotate_left
  · intro W hW; first | (go_simp; done) | (go_simp; with_reducible rfl)
  try simp only [Act.put, List.setIfInBounds_toArray, List.set_cons_zero, List.set_cons_succ]
  refine wpG_take (i := 2) (oi := { dst := some 7, op := Op.load 3 (Operand.tmp 6), type := 3, pos := "ntt.go:38", after := #[{ on := 1, ground := Ground.data }], guard := none }) (v := ?_) rfl (by kernel_rfl) (by kernel_rfl) (by kernel_rfl) (by rfl) ?_ ?_
  rotate_left
  · intro W hW; have hcW := cellD11 hc hW; first | (go_simp; done) | (go_simp; with_reducible rfl)
  try simp only [Act.put, List.setIfInBounds_toArray, List.set_cons_zero, List.set_cons_succ]
  refine wpG_take (i := 3) (oi := { dst := some 8, op := Op.move (Operand.tmp 0), type := 3, pos := "ntt.go:38", after := #[], guard := none }) (v := ?_) rfl (by kernel_rfl) (by kernel_rfl) (by kernel_rfl) (by rfl) ?_ ?_
  rotate_left
  · intro W hW; first | (go_simp; done) | (go_simp; with_reducible rfl)
  try simp only [Act.put, List.setIfInBounds_toArray, List.set_cons_zero, List.set_cons_succ]
  refine wpG_take (i := 4) (oi := { dst := some 9, op := Op.indexAddr 24 (Operand.tmp 2) (Operand.tmp 8), type := 0, pos := "ntt.go:38", after := #[{ on := 3, ground := Ground.data }], guard := none }) (v := ?_) rfl (by kernel_rfl) (by kernel_rfl) (by kernel_rfl) (by rfl) ?_ ?_
  rotate_left
  · intro W hW; first | (go_simp; done) | (go_simp; with_reducible rfl)
  try simp only [Act.put, List.setIfInBounds_toArray, List.set_cons_zero, List.set_cons_succ]
  refine wpG_take (i := 5) (oi := { dst := some 10, op := Op.load 3 (Operand.tmp 9), type := 3, pos := "ntt.go:38", after := #[{ on := 4, ground := Ground.data }], guard := none }) (v := ?_) rfl (by kernel_rfl) (by kernel_rfl) (by kernel_rfl) (by rfl) ?_ ?_
  rotate_left
  · intro W hW; have hcW := cellD11 hd hW; first | (go_simp; done) | (go_simp; with_reducible rfl)
  try simp only [Act.put, List.setIfInBounds_toArray, List.set_cons_zero, List.set_cons_succ]
  refine wpG_do (i := 6) (o := { dst := some 11, op := Op.call { callee := Callee.value (Operand.func 28), args := #[Operand.tmp 7, Operand.tmp 10], argTypes := #[3, 3] }, type := 3, pos := "ntt.go:38", after := #[{ on := 2, ground := Ground.data }, { on := 5, ground := Ground.data }], guard := none }) (by kernel_rfl) rfl (by rfl) fun K hK => ?_
  go_simp
  refine (zaddF (F i) (G i) HF.out HG.out _).mono ?_
  rintro e w1 ⟨rfl, rfl⟩
  refine hK.out _ _ (Below.refl _ _) ?_
  clear hK K
  try simp only [Act.put, List.setIfInBounds_toArray, List.set_cons_zero, List.set_cons_succ]
  refine wpG_take (i := 7) (oi := { dst := some 4, op := Op.assign (Operand.tmp 11), type := 3, pos := "ntt.go:38", after := #[{ on := 6, ground := Ground.data }, { on := 6, ground := Ground.chain }, { on := 0, ground := Ground.phase }, { on := 1, ground := Ground.phase }, { on := 2, ground := Ground.phase }, { on := 3, ground := Ground.phase }, { on := 4, ground := Ground.phase }, { on := 5, ground := Ground.phase }, { on := 6, ground := Ground.phase }], guard := none }) (v := ?_) rfl (by kernel_rfl) (by kernel_rfl) (by kernel_rfl) (by rfl) ?_ ?_
  rotate_left
  · intro W hW; first | (go_simp; done) | (go_simp; with_reducible rfl)
  try simp only [Act.put, List.setIfInBounds_toArray, List.set_cons_zero, List.set_cons_succ]
  refine wpG_done (by kernel_rfl) ?_
  go_wp2
  go_ret
  exact ⟨retZ (by rw [HE.out]), (Below.refl _ _).drew⟩
set_option maxRecDepth 100000 in
set_option maxHeartbeats 1000000 in
theorem cminus_any (F G : Nat → Int) (hF : Po F) (hG : Po G) (g h : Nat) (i : Nat) (hi : i < 256) (w : World) (r : RowAt .i64 24 g 256 (gI F) w) (s : RowAt .i64 24 h 256 (gI G) w) :
    Calls Tryd.prog 31 #[.int .i64 (i : Int), .pointer (some ⟨g, 0, none⟩), .pointer (some ⟨h, 0, none⟩)] w fun e w' => e = .returned (.int .i64 (((rF F i - rF G i).val : Nat) : Int)) ∧ Below w.heap.size w w' := by
  have hc := r.cell (j := i) (by rw [gI_length]; exact hi)
  have hd := s.cell (j := i) (by rw [gI_length]; exact hi)
  rw [gI_get _ hi] at hc hd
  have hiI : (i : Int) < 256 := by omega
  have HF : Hid _ := hF.in64 i
  have HG : Hid _ := hG.in64 i
  have HE : Hid (ni (F i) - ni (G i) = rF F i - rF G i) := by show _ = _; rfl
  clear r s hF hG
  go_enter Tryd.func31, Tryd.ntmps31
  go_wp2_with fail
  refine wpG_begin (by kernel_rfl) ?_
  refine wpG_take (i := 0) (oi := { dst := some 5, op := Op.move (Operand.tmp 0), type := 3, pos := "ntt.go:43", after := #[], guard := none }) (v := ?_) rfl (by kernel_rfl) (by kernel_rfl) (by kernel_rfl) (by rfl) ?_ ?_
  rotate_left
  · intro W hW; first | (go_simp; done) | (go_simp; with_reducible rfl)
  try simp only [Act.put, List.setIfInBounds_toArray, List.set_cons_zero, List.set_cons_succ]
  refine wpG_take (i := 1) (oi := { dst := some 6, op := Op.indexAddr 24 (Operand.tmp 1) (Operand.tmp 5), type := 0, pos := "ntt.go:43", after := #[{ on := 0, ground := Ground.data }], guard := none }) (v := ?_) rfl (by kernel_rfl) (by kernel_rfl) (by kernel_rfl) (by rfl) ?_ ?_
  rotate_left
  · intro W hW; first | (go_simp; done) | (go_simp; with_reducible rfl)
  try simp only [Act.put, List.setIfInBounds_toArray, List.set_cons_zero, List.set_cons_succ]
  refine wpG_take (i := 2) (oi := { dst := some 7, op := Op.load 3 (Operand.tmp 6), type := 3, pos := "ntt.go:43", after := #[{ on := 1, ground := Ground.data }], guard := none }) (v := ?_) rfl (by kernel_rfl) (by kernel_rfl) (by kernel_rfl) (by rfl) ?_ ?_
  rotate_left
  · intro W hW; have hcW := cellD11 hc hW; first | (go_simp; done) | (go_simp; with_reducible rfl)
  try simp only [Act.put, List.setIfInBounds_toArray, List.set_cons_zero, List.set_cons_succ]
  refine wpG_take (i := 3) (oi := { dst := some 8, op := Op.move (Operand.tmp 0), type := 3, pos := "ntt.go:43", after := #[], guard := none }) (v := ?_) rfl (by kernel_rfl) (by kernel_rfl) (by kernel_rfl) (by rfl) ?_ ?_
  rotate_left
  · intro W hW; first | (go_simp; done) | (go_simp; with_reducible rfl)
  try simp only [Act.put, List.setIfInBounds_toArray, List.set_cons_zero, List.set_cons_succ]
  refine wpG_take (i := 4) (oi := { dst := some 9, op := Op.indexAddr 24 (Operand.tmp 2) (Operand.tmp 8), type := 0, pos := "ntt.go:43", after := #[{ on := 3, ground := Ground.data }], guard := none }) (v := ?_) rfl (by kernel_rfl) (by kernel_rfl) (by kernel_rfl) (by rfl) ?_ ?_
  rotate_left
  · intro W hW; first | (go_simp; done) | (go_simp; with_reducible rfl)
  try simp only [Act.put, List.setIfInBounds_toArray, List.set_cons_zero, List.set_cons_succ]
  refine wpG_take (i := 5) (oi := { dst := some 10, op := Op.load 3 (Operand.tmp 9), type := 3, pos := "ntt.go:43", after := #[{ on := 4, ground := Ground.data }], guard := none }) (v := ?_) rfl (by kernel_rfl) (by kernel_rfl) (by kernel_rfl) (by rfl) ?_ ?_
  rotate_left
  · intro W hW; have hcW := cellD11 hd hW; first | (go_simp; done) | (go_simp; with_reducible rfl)
  try simp only [Act.put, List.setIfInBounds_toArray, List.set_cons_zero, List.set_cons_succ]
  refine wpG_do (i := 6) (o := { dst := some 11, op := Op.call { callee := Callee.value (Operand.func 7), args := #[Operand.tmp 7, Operand.tmp 10], argTypes := #[3, 3] }, type := 3, pos := "ntt.go:43", after := #[{ on := 2, ground := Ground.data }, { on := 5, ground := Ground.data }], guard := none }) (by kernel_rfl) rfl (by rfl) fun K hK => ?_
  go_simp
  refine (zsubF (F i) (G i) HF.out HG.out _).mono ?_
  rintro e w1 ⟨rfl, rfl⟩
  refine hK.out _ _ (Below.refl _ _) ?_
  clear hK K
  try simp only [Act.put, List.setIfInBounds_toArray, List.set_cons_zero, List.set_cons_succ]
  refine wpG_take (i := 7) (oi := { dst := some 4, op := Op.assign (Operand.tmp 11), type := 3, pos := "ntt.go:43", after := #[{ on := 6, ground := Ground.data }, { on := 6, ground := Ground.chain }, { on := 0, ground := Ground.phase }, { on := 1, ground := Ground.phase }, { on := 2, ground := Ground.phase }, { on := 3, ground := Ground.phase }, { on := 4, ground := Ground.phase }, { on := 5, ground := Ground.phase }, { on := 6, ground := Ground.phase }], guard := none }) (v := ?_) rfl (by kernel_rfl) (by kernel_rfl) (by kernel_rfl) (by rfl) ?_ ?_
  rotate_left
  · intro W hW; first | (go_simp; done) | (go_simp; with_reducible rfl)
  try simp only [Act.put, List.setIfInBounds_toArray, List.set_cons_zero, List.set_cons_succ]
  refine wpG_done (by kernel_rfl) ?_
  go_wp2
  go_ret
  exact ⟨retZ (by rw [HE.out]), (Below.refl _ _).drew⟩
end Go.Proofs.YtbladcgdbhogcabDoor
