/- Products factor by factor, and products: contracts of package ntt, eighth part. -/
import Derived.Test.YtbladcgdbhogcabDoorN11g
namespace Go.Proofs.YtbladcgdbhogcabDoor
open Go.ChangeShapes Go.WideShapes Go.ChangeAt Go.RowKit
set_option linter.unusedSimpArgs false
set_option linter.unusedVariables false

theorem sq_zr : ∀ i : Fin 128, 17 * (zt i.val * zt i.val) = zr i.val := by decide +kernel
set_option maxHeartbeats 1000000 in
theorem square_any (i : Nat) (h : i < 128) (w : World) (hT : PwT w) :
    Calls Tryd.prog 29 #[.int .i64 (i : Int)] w fun e w' => e = .returned (.int .i64 (((zr i).val : Nat) : Int)) ∧ w' = w := by
  have H1 : Hid (ni (((zt i).val : Nat) : Int) * ni (((zt i).val : Nat) : Int) = zt i * zt i) := by show _ = _; rw [ni_fz]
  have H2 : Hid (ni 17 * ni (((zt i * zt i).val : Nat) : Int) = zr i) := by
    show _ = _
    rw [ni_fz, show ni 17 = 17 from rfl]
    exact sq_zr ⟨i, h⟩
  have HT : Hid (PwT w) := hT
  clear hT
  go_enter Tryd.func29, Tryd.ntmps29
  go_wp2_with fail
  refine (zzetaF i h _ HT.out).mono ?_
  rintro e w1 ⟨rfl, rfl⟩
  go_wp2_with fail
  refine (zmulF _ _ (in64_fz (zt i)) (in64_fz (zt i)) _).mono ?_
  rintro e w1 ⟨rfl, rfl⟩
  rw [H1.out]
  go_wp2_with fail
  refine (zmulF 17 _ ⟨by omega, by omega⟩ (in64_fz (zt i * zt i)) _).mono ?_
  rintro e w1 ⟨rfl, rfl⟩
  rw [H2.out]
  go_wp2
  go_ret
  exact ⟨rfl, rfl⟩
theorem and_not_all : allB (fun i => bits .andNot .i64 (i : Int) 1 == ((i - i % 2 : Nat) : Int)) 256 = true := by decide +kernel
theorem and_not (i : Nat) (h : i < 256) : bits .andNot .i64 (i : Int) 1 = ((i - i % 2 : Nat) : Int) := by
  have := allB_at and_not_all i h
  simpa using this

set_option maxRecDepth 100000 in
set_option maxHeartbeats 2000000 in
theorem ctimes_any (F G : Nat → Int) (hF : Po F) (hG : Po G) (g h : Nat) (i : Nat) (hi : i < 256) (w : World) (hT : PwT w) (r : RowAt .i64 24 g 256 (gI F) w) (s : RowAt .i64 24 h 256 (gI G) w) :
    Calls Tryd.prog 27 #[.int .i64 (i : Int), .pointer (some ⟨g, 0, none⟩), .pointer (some ⟨h, 0, none⟩)] w fun e w' => e = .returned (.int .i64 (((tm (rF F) (rF G) i).val : Nat) : Int)) ∧ Below w.heap.size w w' := by
  have hev := and_not i hi
  obtain ⟨v, hv⟩ : ∃ v : Nat, v = i - i % 2 := ⟨_, rfl⟩
  rw [← hv] at hev
  obtain ⟨u, hu⟩ : ∃ u : Nat, u = v + 1 := ⟨_, rfl⟩
  have hu6 : u < 256 := by omega
  have hv6 : v < 256 := by omega
  have hvI : (v : Int) < 256 := by omega
  have huI : (u : Int) < 256 := by omega
  have x1 : IntKind.i64.wrap ((v : Int) + 1) = (u : Int) := by rw [IntWalk.i64_in _ (by omega)]; omega
  have ha0 := r.cell (j := v) (by rw [gI_length]; exact hv6)
  have ha1 := r.cell (j := u) (by rw [gI_length]; exact hu6)
  have hb0 := s.cell (j := v) (by rw [gI_length]; exact hv6)
  have hb1 := s.cell (j := u) (by rw [gI_length]; exact hu6)
  rw [gI_get _ hv6] at ha0 hb0
  rw [gI_get _ hu6] at ha1 hb1
  have HFv : Hid _ := hF.in64 v
  have HFu : Hid _ := hF.in64 u
  have HGv : Hid _ := hG.in64 v
  have HGu : Hid _ := hG.in64 u
  have HT : Hid (PwT w) := hT
  have HU : Hid (u = v + 1) := hu
  have HV : Hid (v = i - i % 2) := hv
  clear r s hF hG hT hu hv
  go_enter Tryd.func27, Tryd.ntmps27
  go_wp2_with fail
  refine wpG_begin (by kernel_rfl) ?_
  refine wpG_take (i := 0) (oi := { dst := some 12, op := Op.move (Operand.tmp 5), type := 3, pos := "ntt.go:101", after := #[], guard := none }) (v := ?_) rfl (by kernel_rfl) (by kernel_rfl) (by kernel_rfl) (by rfl) ?_ ?_
  rotate_left
  · intro W hW; first | (go_simp; done) | (go_simp; with_reducible rfl)
  try simp only [Act.put, List.setIfInBounds_toArray, List.set_cons_zero, List.set_cons_succ]
  refine wpG_take (i := 1) (oi := { dst := some 13, op := Op.indexAddr 24 (Operand.tmp 1) (Operand.tmp 12), type := 0, pos := "ntt.go:101", after := #[{ on := 0, ground := Ground.data }], guard := none }) (v := ?_) rfl (by kernel_rfl) (by kernel_rfl) (by kernel_rfl) (by rfl) ?_ ?_
  rotate_left
  · intro W hW; first | (go_simp; done) | (go_simp; with_reducible rfl)
  try simp only [Act.put, List.setIfInBounds_toArray, List.set_cons_zero, List.set_cons_succ]
  refine wpG_take (i := 2) (oi := { dst := some 14, op := Op.load 3 (Operand.tmp 13), type := 3, pos := "ntt.go:101", after := #[{ on := 1, ground := Ground.data }], guard := none }) (v := ?_) rfl (by kernel_rfl) (by kernel_rfl) (by kernel_rfl) (by rfl) ?_ ?_
  rotate_left
  · intro W hW; have hcW := cellD11 ha0 hW; first | (go_simp; done) | (go_simp; with_reducible rfl)
  try simp only [Act.put, List.setIfInBounds_toArray, List.set_cons_zero, List.set_cons_succ]
  refine wpG_take (i := 3) (oi := { dst := some 15, op := Op.move (Operand.tmp 5), type := 3, pos := "ntt.go:101", after := #[{ on := 14, ground := Ground.gcOnly Departure.lateStores }], guard := none }) (v := ?_) rfl (by kernel_rfl) (by kernel_rfl) (by kernel_rfl) (by rfl) ?_ ?_
  rotate_left
  · intro W hW; first | (go_simp; done) | (go_simp; with_reducible rfl)
  try simp only [Act.put, List.setIfInBounds_toArray, List.set_cons_zero, List.set_cons_succ]
  refine wpG_take (i := 4) (oi := { dst := some 16, op := Op.binOp BinOp.add 3 (Operand.tmp 15) (Operand.const (Value.int IntKind.i64 1)) 3, type := 3, pos := "ntt.go:101", after := #[{ on := 3, ground := Ground.data }, { on := 14, ground := Ground.gcOnly Departure.lateStores }], guard := none }) (v := ?_) rfl (by kernel_rfl) (by kernel_rfl) (by kernel_rfl) (by rfl) ?_ ?_
  rotate_left
  · intro W hW; first | (go_simp; done) | (go_simp; with_reducible rfl)
  try simp only [Act.put, List.setIfInBounds_toArray, List.set_cons_zero, List.set_cons_succ]
  refine wpG_take (i := 5) (oi := { dst := some 17, op := Op.indexAddr 24 (Operand.tmp 1) (Operand.tmp 16), type := 0, pos := "ntt.go:101", after := #[{ on := 4, ground := Ground.data }, { on := 14, ground := Ground.gcOnly Departure.lateStores }], guard := none }) (v := ?_) rfl (by kernel_rfl) (by kernel_rfl) (by kernel_rfl) (by rfl) ?_ ?_
  rotate_left
  · intro W hW; first | (go_simp; done) | (go_simp; with_reducible rfl)
  try simp only [Act.put, List.setIfInBounds_toArray, List.set_cons_zero, List.set_cons_succ]
  refine wpG_take (i := 6) (oi := { dst := some 18, op := Op.load 3 (Operand.tmp 17), type := 3, pos := "ntt.go:101", after := #[{ on := 5, ground := Ground.data }, { on := 14, ground := Ground.gcOnly Departure.lateStores }], guard := none }) (v := ?_) rfl (by kernel_rfl) (by kernel_rfl) (by kernel_rfl) (by rfl) ?_ ?_
  rotate_left
  · intro W hW; have hcW := cellD11 ha1 hW; first | (go_simp; done) | (go_simp; with_reducible rfl)
  try simp only [Act.put, List.setIfInBounds_toArray, List.set_cons_zero, List.set_cons_succ]
  refine wpG_take (i := 7) (oi := { dst := some 19, op := Op.move (Operand.tmp 5), type := 3, pos := "ntt.go:101", after := #[{ on := 15, ground := Ground.gcOnly Departure.lateStores }], guard := none }) (v := ?_) rfl (by kernel_rfl) (by kernel_rfl) (by kernel_rfl) (by rfl) ?_ ?_
  rotate_left
  · intro W hW; first | (go_simp; done) | (go_simp; with_reducible rfl)
  try simp only [Act.put, List.setIfInBounds_toArray, List.set_cons_zero, List.set_cons_succ]
  refine wpG_take (i := 8) (oi := { dst := some 20, op := Op.indexAddr 24 (Operand.tmp 2) (Operand.tmp 19), type := 0, pos := "ntt.go:101", after := #[{ on := 7, ground := Ground.data }, { on := 15, ground := Ground.gcOnly Departure.lateStores }], guard := none }) (v := ?_) rfl (by kernel_rfl) (by kernel_rfl) (by kernel_rfl) (by rfl) ?_ ?_
  rotate_left
  · intro W hW; first | (go_simp; done) | (go_simp; with_reducible rfl)
  try simp only [Act.put, List.setIfInBounds_toArray, List.set_cons_zero, List.set_cons_succ]
  refine wpG_take (i := 9) (oi := { dst := some 21, op := Op.load 3 (Operand.tmp 20), type := 3, pos := "ntt.go:101", after := #[{ on := 8, ground := Ground.data }, { on := 15, ground := Ground.gcOnly Departure.lateStores }], guard := none }) (v := ?_) rfl (by kernel_rfl) (by kernel_rfl) (by kernel_rfl) (by rfl) ?_ ?_
  rotate_left
  · intro W hW; have hcW := cellD11 hb0 hW; first | (go_simp; done) | (go_simp; with_reducible rfl)
  try simp only [Act.put, List.setIfInBounds_toArray, List.set_cons_zero, List.set_cons_succ]
  refine wpG_take (i := 10) (oi := { dst := some 22, op := Op.move (Operand.tmp 5), type := 3, pos := "ntt.go:101", after := #[{ on := 16, ground := Ground.gcOnly Departure.lateStores }], guard := none }) (v := ?_) rfl (by kernel_rfl) (by kernel_rfl) (by kernel_rfl) (by rfl) ?_ ?_
  rotate_left
  · intro W hW; first | (go_simp; done) | (go_simp; with_reducible rfl)
  try simp only [Act.put, List.setIfInBounds_toArray, List.set_cons_zero, List.set_cons_succ]
  refine wpG_take (i := 11) (oi := { dst := some 23, op := Op.binOp BinOp.add 3 (Operand.tmp 22) (Operand.const (Value.int IntKind.i64 1)) 3, type := 3, pos := "ntt.go:101", after := #[{ on := 10, ground := Ground.data }, { on := 16, ground := Ground.gcOnly Departure.lateStores }], guard := none }) (v := ?_) rfl (by kernel_rfl) (by kernel_rfl) (by kernel_rfl) (by rfl) ?_ ?_
  rotate_left
  · intro W hW; first | (go_simp; done) | (go_simp; with_reducible rfl)
  try simp only [Act.put, List.setIfInBounds_toArray, List.set_cons_zero, List.set_cons_succ]
  refine wpG_take (i := 12) (oi := { dst := some 24, op := Op.indexAddr 24 (Operand.tmp 2) (Operand.tmp 23), type := 0, pos := "ntt.go:101", after := #[{ on := 11, ground := Ground.data }, { on := 16, ground := Ground.gcOnly Departure.lateStores }], guard := none }) (v := ?_) rfl (by kernel_rfl) (by kernel_rfl) (by kernel_rfl) (by rfl) ?_ ?_
  rotate_left
  · intro W hW; first | (go_simp; done) | (go_simp; with_reducible rfl)
  try simp only [Act.put, List.setIfInBounds_toArray, List.set_cons_zero, List.set_cons_succ]
  refine wpG_take (i := 13) (oi := { dst := some 25, op := Op.load 3 (Operand.tmp 24), type := 3, pos := "ntt.go:101", after := #[{ on := 12, ground := Ground.data }, { on := 16, ground := Ground.gcOnly Departure.lateStores }], guard := none }) (v := ?_) rfl (by kernel_rfl) (by kernel_rfl) (by kernel_rfl) (by rfl) ?_ ?_
  rotate_left
  · intro W hW; have hcW := cellD11 hb1 hW; first | (go_simp; done) | (go_simp; with_reducible rfl)
  try simp only [Act.put, List.setIfInBounds_toArray, List.set_cons_zero, List.set_cons_succ]
  refine wpG_take (i := 14) (oi := { dst := some 6, op := Op.assign (Operand.tmp 14), type := 3, pos := "ntt.go:101", after := #[{ on := 2, ground := Ground.data }, { on := 0, ground := Ground.phase }, { on := 1, ground := Ground.phase }, { on := 2, ground := Ground.phase }, { on := 3, ground := Ground.textOnly Departure.lateStores }, { on := 4, ground := Ground.textOnly Departure.lateStores }, { on := 5, ground := Ground.textOnly Departure.lateStores }, { on := 6, ground := Ground.textOnly Departure.lateStores }, { on := 7, ground := Ground.textOnly Departure.lateStores }, { on := 8, ground := Ground.textOnly Departure.lateStores }, { on := 9, ground := Ground.textOnly Departure.lateStores }, { on := 10, ground := Ground.textOnly Departure.lateStores }, { on := 11, ground := Ground.textOnly Departure.lateStores }, { on := 12, ground := Ground.textOnly Departure.lateStores }, { on := 13, ground := Ground.textOnly Departure.lateStores }], guard := none }) (v := ?_) rfl (by kernel_rfl) (by kernel_rfl) (by kernel_rfl) (by rfl) ?_ ?_
  rotate_left
  · intro W hW; first | (go_simp; done) | (go_simp; with_reducible rfl)
  try simp only [Act.put, List.setIfInBounds_toArray, List.set_cons_zero, List.set_cons_succ]
  refine wpG_take (i := 15) (oi := { dst := some 7, op := Op.assign (Operand.tmp 18), type := 3, pos := "ntt.go:101", after := #[{ on := 6, ground := Ground.data }, { on := 14, ground := Ground.chain }, { on := 0, ground := Ground.phase }, { on := 1, ground := Ground.phase }, { on := 2, ground := Ground.phase }, { on := 3, ground := Ground.phase }, { on := 4, ground := Ground.phase }, { on := 5, ground := Ground.phase }, { on := 6, ground := Ground.phase }, { on := 7, ground := Ground.textOnly Departure.lateStores }, { on := 8, ground := Ground.textOnly Departure.lateStores }, { on := 9, ground := Ground.textOnly Departure.lateStores }, { on := 10, ground := Ground.textOnly Departure.lateStores }, { on := 11, ground := Ground.textOnly Departure.lateStores }, { on := 12, ground := Ground.textOnly Departure.lateStores }, { on := 13, ground := Ground.textOnly Departure.lateStores }, { on := 14, ground := Ground.phase }], guard := none }) (v := ?_) rfl (by kernel_rfl) (by kernel_rfl) (by kernel_rfl) (by rfl) ?_ ?_
  rotate_left
  · intro W hW; first | (go_simp; done) | (go_simp; with_reducible rfl)
  try simp only [Act.put, List.setIfInBounds_toArray, List.set_cons_zero, List.set_cons_succ]
  refine wpG_take (i := 16) (oi := { dst := some 8, op := Op.assign (Operand.tmp 21), type := 3, pos := "ntt.go:101", after := #[{ on := 9, ground := Ground.data }, { on := 15, ground := Ground.chain }, { on := 0, ground := Ground.phase }, { on := 1, ground := Ground.phase }, { on := 2, ground := Ground.phase }, { on := 3, ground := Ground.phase }, { on := 4, ground := Ground.phase }, { on := 5, ground := Ground.phase }, { on := 6, ground := Ground.phase }, { on := 7, ground := Ground.phase }, { on := 8, ground := Ground.phase }, { on := 9, ground := Ground.phase }, { on := 10, ground := Ground.textOnly Departure.lateStores }, { on := 11, ground := Ground.textOnly Departure.lateStores }, { on := 12, ground := Ground.textOnly Departure.lateStores }, { on := 13, ground := Ground.textOnly Departure.lateStores }, { on := 14, ground := Ground.phase }, { on := 15, ground := Ground.phase }], guard := none }) (v := ?_) rfl (by kernel_rfl) (by kernel_rfl) (by kernel_rfl) (by rfl) ?_ ?_
  rotate_left
  · intro W hW; first | (go_simp; done) | (go_simp; with_reducible rfl)
  try simp only [Act.put, List.setIfInBounds_toArray, List.set_cons_zero, List.set_cons_succ]
  refine wpG_take (i := 17) (oi := { dst := some 9, op := Op.assign (Operand.tmp 25), type := 3, pos := "ntt.go:101", after := #[{ on := 13, ground := Ground.data }, { on := 16, ground := Ground.chain }, { on := 0, ground := Ground.phase }, { on := 1, ground := Ground.phase }, { on := 2, ground := Ground.phase }, { on := 3, ground := Ground.phase }, { on := 4, ground := Ground.phase }, { on := 5, ground := Ground.phase }, { on := 6, ground := Ground.phase }, { on := 7, ground := Ground.phase }, { on := 8, ground := Ground.phase }, { on := 9, ground := Ground.phase }, { on := 10, ground := Ground.phase }, { on := 11, ground := Ground.phase }, { on := 12, ground := Ground.phase }, { on := 13, ground := Ground.phase }, { on := 14, ground := Ground.phase }, { on := 15, ground := Ground.phase }, { on := 16, ground := Ground.phase }], guard := none }) (v := ?_) rfl (by kernel_rfl) (by kernel_rfl) (by kernel_rfl) (by rfl) ?_ ?_
  rotate_left
  · intro W hW; first | (go_simp; done) | (go_simp; with_reducible rfl)
  try simp only [Act.put, List.setIfInBounds_toArray, List.set_cons_zero, List.set_cons_succ]
  refine wpG_done (by kernel_rfl) ?_
  have HTd : Hid (PwT w.drew) := HT.out.kept (Below.refl _ _).drew
  clear ha0 ha1 hb0 hb1 hev
  by_cases hodd : i % 2 = 1
  · have hne : ((i : Int) != (v : Int)) = true := by
      have := HV.out
      simp
      omega
    have hneI : ¬ (i : Int) = (v : Int) := by have := HV.out; omega
    have hneN : ¬ i = v := by omega
    have HE : Hid (ni (((ni (F v) * ni (G u)).val : Nat) : Int) + ni (((ni (F u) * ni (G v)).val : Nat) : Int) = tm (rF F) (rF G) i) := by
      show _ = _
      rw [ni_fz, ni_fz]
      unfold tm
      rw [if_neg (by omega)]
      have e1 : u = i := by have := HU.out; have := HV.out; omega
      have e2 : v = i - 1 := by have := HV.out; omega
      rw [e1, e2]
      rfl
    go_wp2_with fail
    refine (zmulF _ _ HFv.out HGu.out _).mono ?_
    rintro e w1 ⟨rfl, rfl⟩
    go_wp2_with fail
    refine (zmulF _ _ HFu.out HGv.out _).mono ?_
    rintro e w1 ⟨rfl, rfl⟩
    go_wp2_with fail
    refine (zaddF _ _ (in64_fz _) (in64_fz _) _).mono ?_
    rintro e w1 ⟨rfl, rfl⟩
    rw [HE.out]
    go_wp2
    go_ret
    exact ⟨rfl, (Below.refl _ _).drew⟩
  · have hie : v = i := by have := HV.out; omega
    subst hie
    obtain ⟨q, hq⟩ : ∃ q : Nat, q = v / 2 := ⟨_, rfl⟩
    have x2 : Int.tdiv (v : Int) 2 = (q : Int) := by rw [Int.tdiv_eq_ediv_of_nonneg (by omega)]; omega
    have x3 : IntKind.i64.wrap (q : Int) = (q : Int) := IntWalk.i64_in _ (by omega)
    have HQ : Hid (q < 128) := by show _ < _; omega
    have HE : Hid (ni (((ni (F v) * ni (G v)).val : Nat) : Int) + ni (((ni (((zr q).val : Nat) : Int) * ni (((ni (F u) * ni (G u)).val : Nat) : Int)).val : Nat) : Int) = tm (rF F) (rF G) v) := by
      show _ = _
      rw [ni_fz, ni_fz, ni_fz, ni_fz]
      unfold tm
      rw [if_pos (by omega), HU.out, hq, ni_rF, ni_rF, ni_rF, ni_rF]
      grind -lia
    clear hq
    go_wp2_with fail
    refine (zmulF _ _ HFv.out HGv.out _).mono ?_
    rintro e w1 ⟨rfl, rfl⟩
    go_wp2_with fail
    refine (square_any q HQ.out _ HTd.out).mono ?_
    rintro e w1 ⟨rfl, rfl⟩
    go_wp2_with fail
    refine (zmulF _ _ HFu.out HGu.out _).mono ?_
    rintro e w1 ⟨rfl, rfl⟩
    go_wp2_with fail
    refine (zmulF _ _ (in64_fz _) (in64_fz _) _).mono ?_
    rintro e w1 ⟨rfl, rfl⟩
    go_wp2_with fail
    refine (zaddF _ _ (in64_fz _) (in64_fz _) _).mono ?_
    rintro e w1 ⟨rfl, rfl⟩
    rw [HE.out]
    go_wp2
    go_ret
    exact ⟨rfl, (Below.refl _ _).drew⟩
end Go.Proofs.YtbladcgdbhogcabDoor
