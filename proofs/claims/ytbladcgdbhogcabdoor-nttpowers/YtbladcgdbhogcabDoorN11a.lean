/- A polynomial told place by place by a closure: contracts of package ntt, first part. -/
import Derived.Test.YtbladcgdbhogcabDoorNMath6
import Derived.Test.YtbladcgdbhogcabDoorRef11b
import Derived.Test.YtbladcgdbhogcabDoorPoO
import Derived.Test.YtbladcgdbhogcabDoorZ10d
import Derived.Shelf.Abstract
namespace Go.Proofs.YtbladcgdbhogcabDoor
open Go.ChangeShapes Go.WideShapes Go.ChangeAt Go.RowKit
set_option linter.unusedSimpArgs false
set_option linter.unusedVariables false

theorem poInfoA (F : Nat → Int) : (Tryd.prog.info? 24).map (·.size) = some (gI F).length := by rw [gI_length]; kernel_rfl
theorem alloc_poA (w : World) : (Instr.alloc 24 true (.tuple #[])).run Tryd.prog w = .ok (.pointer (some ⟨w.heap.size, 0, none⟩)) (w.alloc (.cells ((gI fun _ => 0).map (Value.int .i64)).toArray 24)) := by kernel_rfl
theorem app1 (v c : Value) : #[v] ++ #[c] = #[v, c] := rfl
theorem app2 (v c d : Value) : #[v] ++ #[c, d] = #[v, c, d] := rfl
/-- What places were told so far. -/
theorem put_place {f : Nat → FZ} {i : Nat} {G : Nat → Int} (h : ∀ k, k < i → G k = fzF f k) : ∀ k, k < i + 1 → (if k = i then (((f i).val : Nat) : Int) else G k) = fzF f k := by
  intro k hk
  by_cases e : k = i
  · rw [if_pos e, e]
    rfl
  · rw [if_neg e, h k (by omega)]

theorem enters_by {f : FuncId} {fn : Func} {c : Code} (hf : Tryd.prog.funcs[f]? = some fn) (hn : (fn.name == "runtime.NumGoroutine") = false) (hb : fn.body = some c) (args : Array Value) (w : World) : (callFunc f args).run Tryd.prog w = .ok (.enter f args) w := enters_of hf hn hb args w

set_option maxRecDepth 100000 in
set_option maxHeartbeats 2000000 in
theorem placed_any (K : FuncId) (caps : Array Value) (f : Nat → FZ) (w : World) (hE : ∀ (args : Array Value) (w : World), (callFunc K args).run Tryd.prog w = .ok (.enter K args) w)
    (hK : ∀ i : Nat, i < 256 → ∀ W, Below w.heap.size w W → Calls Tryd.prog K (#[Value.int .i64 (i : Int)] ++ caps) W fun e w' => e = .returned (.int .i64 (((f i).val : Nat) : Int)) ∧ Below W.heap.size W w') :
    Calls Tryd.prog 25 #[.func (.func K) #[] caps] w fun e w' => e = .returned (poV f) ∧ Below w.heap.size w w' := by
  have HK : Hid _ := hK
  clear hK
  go_enter Tryd.func25, Tryd.ntmps25
  go_wp2_with (refine wpList_alloc_row (k := .i64) rfl 24 rfl (gI fun _ => 0) (alloc_poA _) (gI_ne _) (poMax _) ?_)
  intro w1 rz b1 s1
  rw [gI_length] at rz
  go_wp2_with (refine wpList_alloc_row (k := .i64) rfl 24 rfl (gI fun _ => 0) (alloc_poA _) (gI_ne _) (poMax _) ?_)
  intro w2 ro b2 s2
  rw [gI_length] at ro
  replace rz := rz.kept b2
  have hbw := stepB b1 b2
  have n1 : w.heap.size < w1.heap.size := by have := s1.out; omega
  clear b1 b2 s1 s2
  go_wp2
  go_loopw [5] (fun iv wx => ∃ (i : Nat) (G : Nat → Int), i ≤ 256 ∧ iv = .int .i64 (i : Int) ∧ Hid (∀ k, k < i → G k = fzF f k) ∧ RowAt .i64 24 w.heap.size 256 (gI fun _ => 0) wx ∧ RowAt .i64 24 w1.heap.size 256 (gI G) wx ∧ Below w.heap.size w wx) (fun iv _ => 256 - (intOf iv).toNat)
  case atStart => exact ⟨0, fun _ => 0, by omega, rfl, (by show ∀ k, _; intro k hk; omega), rz, ro, hbw⟩
  case round =>
    obtain ⟨i, G, hi, rfl, HG, rx, ra, hbx⟩ := hrel
    clear rz ro hbw
    by_cases hlt : i < 256
    · have hd : decide ((i : Int) < 256) = true := decide_eq_true (by omega)
      have hiI : (i : Int) < 256 := by omega
      have HG5 : Hid _ := put_place HG.out
      go_wp2_with fail
      refine (HK.out i hlt _ hbx).mono ?_
      rintro e w3 ⟨rfl, b3⟩
      replace ra := ra.kept b3
      replace rx := rx.kept b3
      replace hbx := stepB hbx b3
      generalize (f i).val = z at HG5
      have hc := ra.cell (j := i) (by rw [gI_length]; exact hlt)
      have hf := ra.free i
      have r5 := ra.set i ((z : Nat) : Int)
      rw [gI_set] at r5
      have hw5 := Wrote.set w1.heap.size i w3 (.int .i64 ((z : Nat) : Int))
      have R5 : Hid _ := r5
      have RZ : Hid _ := rx.wrote hw5 (by omega)
      have HB5 : Hid _ := hw5.below _ _ (by omega) hbx
      clear r5 hw5 ra rx hbx b3
      go_wp2
      go_roundw
      case rel => exact ⟨i + 1, _, by omega, by go_num, HG5, RZ.out, R5.out, HB5.out⟩
      case measure => simp [intOf] <;> omega
    · have hie : i = 256 := by omega
      have hd : decide ((i : Int) < 256) = false := decide_eq_false (by omega)
      have hiI : (256 : Int) ≤ (i : Int) := by omega
      have HE : Hid (gI G = gI (fzF f)) := by
        show _ = _
        exact gI_congr fun k hk => HG.out k (by omega)
      rw [HE.out] at ra
      clear hie
      go_wp2_with (first | refine wpList_load_row rfl 24 _ rfl rfl ra _ Tryd.underlying24 rfl (poInfoA _) ?_ | (refine wpList_store_row rfl 24 _ _ rfl (gI (fzF f)) rfl rfl rx (by rw [gI_length, gI_length]) (poInfoA _) ?_; intro w7 r7 hw7))
      refine bodyPost_row (k := .i64) rfl rfl rfl r7 Tryd.underlying24 rfl (poInfoA _) ?_
      exact ⟨rfl, hw7.below _ _ (by omega) hbx⟩
end Go.Proofs.YtbladcgdbhogcabDoor
