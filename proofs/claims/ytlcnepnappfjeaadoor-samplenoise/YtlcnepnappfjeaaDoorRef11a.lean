/- What the document's own rests, sums and differences of polynomials are, and the factors' roots: contracts of the reference of layer 11. -/
import Derived.Test.YtlcnepnappfjeaaDoorNum
import Derived.Test.YtlcnepnappfjeaaDoorRef10b
import Derived.Test.YtlcnepnappfjeaaDoorBase
namespace Go.Proofs.YtlcnepnappfjeaaDoor
open Go.ChangeShapes Go.WideShapes Go.ChangeAt Go.RowKit
set_option linter.unusedSimpArgs false
set_option linter.unusedVariables false

/-- A polynomial's rests as a value. -/
abbrev poV (f : Nat → FZ) : Value := .agg ((gI (fzF f)).map (Value.int .i64)).toArray
theorem poInfo (F : Nat → Int) : (Tryd.prog.info? 24).map (·.size) = some (gI F).length := by rw [gI_length]; kernel_rfl
theorem poMax (F : Nat → Int) : (gI F).length ≤ maxLen := by rw [gI_length]; decide
theorem alloc_po (w : World) : (Instr.alloc 24 true (.tuple #[])).run Tryd.prog w = .ok (.pointer (some ⟨w.heap.size, 0, none⟩)) (w.alloc (.cells ((gI fun _ => 0).map (Value.int .i64)).toArray 24)) := by kernel_rfl
/-- Numbers of 64 bits, 256 of them. -/
structure Po (F : Nat → Int) : Prop where
  in64 : ∀ k, In64 (F k)
theorem Po.fz (f : Nat → FZ) : Po (fzF f) := ⟨fun k => by have := fzF_lt f k; unfold In64; omega⟩
/-- What numbers stand for, place by place. -/
def rF (F : Nat → Int) (k : Nat) : FZ := nz (rsZ (F k))
theorem rF_val (F : Nat → Int) (k : Nat) : (((rF F k).val : Nat) : Int) = ((rsZ (F k) : Nat) : Int) := by
  have := rsZ_lt (F k)
  unfold rF
  rw [nz_val, Nat.mod_eq_of_lt this]
theorem rF_fz (f : Nat → FZ) : rF (fzF f) = f := by
  funext k
  unfold rF fzF
  rw [rsZ_nat]
  refine Fin.ext ?_
  rw [nz_val, Nat.mod_mod]
  exact Nat.mod_eq_of_lt (f k).isLt
theorem i64_nat (n : Nat) (h : n ≤ 9223372036854775807) : IntKind.i64.wrap (n : Int) = (n : Int) := IntWalk.i64_in _ (by omega)
theorem tmod_nat (n m : Nat) : ((n : Nat) : Int).tmod (m : Int) = ((n % m : Nat) : Int) := by
  rw [Int.tmod_eq_emod_of_nonneg (by omega)]
  omega

set_option maxRecDepth 100000 in
set_option maxHeartbeats 2000000 in
theorem clean11_any (A : Array Value) (F : Nat → Int) (hF : Po F) (hA : A = ((gI F).map (Value.int .i64)).toArray) (w : World) :
    Calls Tryd.prog 24 #[.agg A] w fun e w' => e = .returned (poV (rF F)) ∧ Below w.heap.size w w' := by
  have HF : Hid (Po F) := hF
  clear hF
  go_enter Tryd.func24, Tryd.ntmps24
  go_wp2_with (refine wpList_box_row (k := .i64) rfl 24 _ rfl (gI F) (by rw [← hA]; rfl) (gI_ne _) (poMax _) ?_)
  intro w1 r1 b1 s1
  rw [gI_length] at r1
  go_wp2_with (refine wpList_alloc_row (k := .i64) rfl 24 rfl (gI fun _ => 0) (alloc_po _) (gI_ne _) (poMax _) ?_)
  intro w2 r2 b2 s2
  rw [gI_length] at r2
  replace r1 := r1.kept b2
  have hbw := stepB b1 b2
  have n1 : w.heap.size < w1.heap.size := by have := s1.out; omega
  clear b1 b2 s1 s2 hA
  go_wp2
  go_loopw [3] (fun iv wx => ∃ (i : Nat) (G : Nat → Int), i ≤ 256 ∧ iv = .int .i64 (i : Int) ∧ Hid (∀ k, k < 256 → G k = if k < i then fzF (rF F) k else F k) ∧ RowAt .i64 24 w.heap.size 256 (gI G) wx ∧ RowAt .i64 24 w1.heap.size 256 (gI fun _ => 0) wx ∧ Below w.heap.size w wx) (fun iv _ => 256 - (intOf iv).toNat)
  case atStart => exact ⟨0, F, by omega, rfl, (by show ∀ k, _; intro k _; rw [if_neg (by omega)]), r1, r2, hbw⟩
  case round =>
    obtain ⟨i, G, hi, rfl, HG, ra, rz, hbx⟩ := hrel
    clear r1 r2 hbw
    by_cases hlt : i < 256
    · have hd : decide ((i : Int) < 256) = true := decide_eq_true (by omega)
      have hiI : (i : Int) < 256 := by omega
      have hc := ra.cell (j := i) (by rw [gI_length]; exact hlt)
      rw [gI_get _ hlt, HG.out i hlt, if_neg (by omega)] at hc
      have hf := ra.free i
      have r5 := ra.set i ((rsZ (F i) : Nat) : Int)
      rw [gI_set] at r5
      have hw5 := Wrote.set w.heap.size i wr (.int .i64 ((rsZ (F i) : Nat) : Int))
      have R5 : Hid _ := r5
      have RZ : Hid _ := rz.wrote hw5 (by omega)
      have HB5 : Hid _ := hw5.below _ _ (Nat.le_refl _) hbx
      have HG5 : Hid (∀ k, k < 256 → (if k = i then ((rsZ (F i) : Nat) : Int) else G k) = if k < i + 1 then fzF (rF F) k else F k) := by
        show ∀ k, _
        intro k hk
        by_cases h : k = i
        · rw [if_pos h, if_pos (by omega), h]
          exact (rF_val F i).symm
        · rw [if_neg h, HG.out k hk]
          by_cases h2 : k < i
          · rw [if_pos h2, if_pos (by omega)]
          · rw [if_neg h2, if_neg (by omega)]
      clear r5 hw5 ra rz hbx
      go_wp2_with fail
      refine (modZ_any (F i) (HF.out.in64 i) _).mono ?_
      rintro e w3 ⟨rfl, rfl⟩
      generalize rsZ (F i) = z at R5 RZ HB5 HG5
      go_wp2
      go_roundw
      case rel => exact ⟨i + 1, _, by omega, by go_num, HG5, R5.out, RZ.out, HB5.out⟩
      case measure => simp [intOf] <;> omega
    · have hie : i = 256 := by omega
      have hd : decide ((i : Int) < 256) = false := decide_eq_false (by omega)
      have hiI : (256 : Int) ≤ (i : Int) := by omega
      have HE : Hid (gI G = gI (fzF (rF F))) := by
        show _ = _
        exact gI_congr fun k hk => by rw [HG.out k hk, if_pos (by omega)]
      rw [HE.out] at ra
      clear hie
      go_wp2_with (first | refine wpList_load_row rfl 24 _ rfl rfl ra _ Tryd.underlying24 rfl (poInfo _) ?_ | (refine wpList_store_row rfl 24 _ _ rfl (gI (fzF (rF F))) rfl rfl rz (by rw [gI_length, gI_length]) (poInfo _) ?_; intro w7 r7 hw7))
      refine bodyPost_row (k := .i64) rfl rfl rfl r7 Tryd.underlying24 rfl (poInfo _) ?_
      exact ⟨rfl, hw7.below _ _ (by omega) hbx⟩
end Go.Proofs.YtlcnepnappfjeaaDoor
