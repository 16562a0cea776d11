/- Entries in memory; entries that go, by any closure: contracts of package frag, first part. -/
import Derived.Test.YtkljklfejaojaaaFgMath
import Derived.Test.YtkljklfejaojaaaRowF
import Derived.Test.YtkljklfejaojaaaWords
import Derived.Test.YtkljklfejaojaaaChecked
import Derived.Shelf.Abstract
import Derived.Lib.SliceRun
import Derived.OwnWalk
import Derived.Deep.QuietTactic
import Derived.BigQuiet
import Derived.WalkSpells
import Derived.RegionTactic
import Derived.BigRegion
namespace Go.Proofs.Ytkljklfejaojaaa
open Go.ChangeShapes Go.WideShapes Go.ChangeAt Go.RowKit
set_option linter.unusedSimpArgs false
set_option linter.unusedVariables false

/-- An entry, with where it lies, and where its pieces' row lies. -/
structure Ey where
  g : Nat
  b : Nat
  e : Ent
def noY : Ey := ⟨0, 0, noE⟩
abbrev pV (g : Nat) : Value := .pointer (some ⟨g, 0, none⟩)
def pvs (xs : List Ey) : List Value := xs.map fun x => pV x.g
theorem pvs_length (xs : List Ey) : (pvs xs).length = xs.length := by simp [pvs]
theorem pvs_get (xs : List Ey) {i : Nat} (h : i < xs.length) : (pvs xs)[i]? = some (pV (xs.getD i noY).g) := by simp [pvs, h]
theorem pvs_one (xs : List Ey) : ∀ u ∈ pvs xs, u.oneCell' = true := by
  intro u hu
  obtain ⟨x, -, rfl⟩ := List.mem_map.1 hu
  rfl
theorem ey_mem {xs : List Ey} {i : Nat} (h : i < xs.length) : xs.getD i noY ∈ xs := by
  have : xs.getD i noY = xs[i] := by simp [h]
  rw [this]
  exact List.getElem_mem h
theorem cellF {w W : World} {p : Addr} {v : Value} (h : w.cell? p = some v) (hb : Below w.heap.size w W) : W.cell? p = some v := by
  rw [hb.cell (World.block_lt_of_cell? _ _ h)]
  exact h
theorem RdC.formF {w : World} {v : Value} {xs : List Value} (h : RdC w v xs) : ∃ a c, v = .slice a xs.length c ∧ xs.length ≤ c ∧ c ≤ maxLen ∧ (a = none → c = 0) := by
  obtain ⟨a, c, e, h1, h2, h3, -⟩ := h
  exact ⟨a, c, e, h1, h2, h3⟩
theorem RdC.atF {w : World} {a : Option Addr} {m c : Nat} {xs : List Ey} (h : RdC w (.slice a m c) (pvs xs)) {i : Nat} (hi : i < xs.length) : ∃ b off, a = some ⟨b, off, none⟩ ∧ w.cell? ⟨b, off + i, none⟩ = some (pV (xs.getD i noY).g) := by
  obtain ⟨b, off, cap, e, -, -, hc⟩ := h.cellAt (i := i) (by rw [pvs_length]; exact hi)
  simp only [Value.slice.injEq] at e
  obtain ⟨rfl, -, -⟩ := e
  refine ⟨b, off, rfl, ?_⟩
  rw [hc]
  simp [pvs, hi]
/-- How a search ends. -/
def ixI (f : Ey → Bool) (xs : List Ey) : Int := if xs.findIdx f < xs.length then ((xs.findIdx f : Nat) : Int) else -1
theorem ixI_hit {f : Ey → Bool} {xs : List Ey} {i : Nat} (h : ∀ j, j < i → f (xs.getD j noY) = false) (hi : i < xs.length) (hf : f (xs.getD i noY) = true) : ixI f xs = (i : Int) ∧ xs.findIdx f = i := by
  have e : xs.findIdx f = i := by
    rw [List.findIdx_eq hi]
    refine ⟨by simpa [hi] using hf, fun j hj => ?_⟩
    have := h j hj
    simpa [show j < xs.length by omega] using this
  unfold ixI
  rw [e, if_pos hi]
  exact ⟨rfl, rfl⟩
theorem ixI_miss {f : Ey → Bool} {xs : List Ey} (h : ∀ j, j < xs.length → f (xs.getD j noY) = false) : ixI f xs = -1 ∧ xs.findIdx f = xs.length := by
  have e : xs.findIdx f = xs.length := by
    rw [List.findIdx_eq_length]
    intro x hx
    obtain ⟨j, hj, rfl⟩ := List.getElem_of_mem hx
    have := h j hj
    simpa [hj] using this
  unfold ixI
  rw [e, if_neg (Nat.lt_irrefl _)]
  exact ⟨rfl, rfl⟩
theorem enters_byF {f : FuncId} {fn : Func} {c : Code} (hf : Try.prog.funcs[f]? = some fn) (hn : (fn.name == "runtime.NumGoroutine") = false) (hb : fn.body = some c) (args : Array Value) (w : World) : (callFunc f args).run Try.prog w = .ok (.enter f args) w := enters_of hf hn hb args w

set_option maxRecDepth 100000 in
set_option maxHeartbeats 2000000 in
theorem idxF_any (K : FuncId) (caps : Array Value) (f : Ey → Bool) (xs : List Ey) (v : Value) (wb w : World) (hB : Below wb.heap.size wb w) (hR : RdC w v (pvs xs)) (hE : ∀ (args : Array Value) (w : World), (callFunc K args).run Try.prog w = .ok (.enter K args) w)
    (hK : ∀ x ∈ xs, ∀ W, Below wb.heap.size wb W → Calls Try.prog K (#[pV x.g] ++ caps) W fun e w' => e = .returned (.bool (f x)) ∧ Below W.heap.size W w') :
    Calls Try.prog 52 #[v, .func (.func K) #[] caps] w fun e w' => e = .returned (.int .i64 (ixI f xs)) ∧ Below w.heap.size w w' := by
  obtain ⟨a, c, rfl, h1, h2, -⟩ := hR.formF
  rw [pvs_length] at h1 hR ⊢
  unfold maxLen at h2
  obtain ⟨n, hn⟩ : ∃ n : Nat, n = xs.length := ⟨_, rfl⟩
  rw [← hn] at hR h1 ⊢
  have HN : Hid (n = xs.length) := hn
  have HR : Hid (RdC w (.slice a n c) (pvs xs)) := hR
  have HB : Hid (Below wb.heap.size wb w) := hB
  have HK : Hid (∀ x ∈ xs, ∀ W, Below wb.heap.size wb W → Calls Try.prog K (#[pV x.g] ++ caps) W fun e w' => e = .returned (.bool (f x)) ∧ Below W.heap.size W w') := hK
  clear hK hR hB hn
  go_enter Try.func52, Try.ntmps52
  go_wp2
  go_loopw [8] (fun iv wx => ∃ i : Nat, i ≤ n ∧ iv = .int .i64 (i : Int) ∧ Hid (∀ j, j < i → f (xs.getD j noY) = false) ∧ Below w.heap.size w wx) (fun iv _ => n - (intOf iv).toNat)
  case atStart => exact ⟨0, by omega, rfl, (by show ∀ k, _; intro k hk; omega), Below.refl _ _⟩
  case round =>
    obtain ⟨i, hi, rfl, HI, hbx⟩ := hrel
    by_cases hlt : i < n
    · have hd : decide ((i : Int) < (n : Int)) = true := decide_eq_true (by omega)
      have hiI : (i : Int) < (n : Int) := by omega
      have hin : i < xs.length := by rw [← HN.out]; exact hlt
      obtain ⟨b, off, rfl, hc⟩ := HR.out.atF hin
      replace hc := cellF hc hbx
      have HM : Hid (xs.getD i noY ∈ xs) := ey_mem hin
      obtain ⟨x, hx⟩ : ∃ x, x = xs.getD i noY := ⟨_, rfl⟩
      rw [← hx] at hc
      have HX : Hid (x = xs.getD i noY) := hx
      have HM2 : Hid (x ∈ xs) := by show _ ∈ _; rw [hx]; exact HM.out
      clear hx HM
      go_wp2_with fail
      refine (HK.out x HM2.out _ (HB.out.trans (hbx.mono HB.out.size))).mono ?_
      rintro e w3 ⟨rfl, b3⟩
      replace hbx := stepB hbx b3
      obtain ⟨r, hr⟩ : ∃ r : Bool, r = f x := ⟨_, rfl⟩
      rw [← hr]
      have HRv : Hid (r = f x) := hr
      clear hr b3 hc
      cases r with
      | true =>
        have HO : Hid (ixI f xs = (i : Int)) := (ixI_hit HI.out hin (by rw [← HX.out]; exact HRv.out.symm)).1
        clear hin
        go_wp2
        go_ret
        exact ⟨by rw [HO.out]; rfl, hbx⟩
      | false =>
        have HI2 : Hid (∀ j, j < i + 1 → f (xs.getD j noY) = false) := by
          show ∀ j, _
          intro j hj
          rcases Nat.lt_or_ge j i with h | h
          · exact HI.out j h
          · rw [show j = i by omega, ← HX.out]
            exact HRv.out.symm
        clear hin
        go_wp2
        go_roundw
        case rel => exact ⟨i + 1, by omega, by go_num, HI2, hbx⟩
        case measure => simp [intOf] <;> omega
    · have hd : decide ((i : Int) < (n : Int)) = false := decide_eq_false (by omega)
      have hiI : (n : Int) ≤ (i : Int) := by omega
      have HO : Hid (ixI f xs = -1) := (ixI_miss fun j hj => HI.out j (by rw [← HN.out] at hj; omega)).1
      go_wp2
      go_ret
      exact ⟨by rw [HO.out]; rfl, hbx⟩
end Go.Proofs.Ytkljklfejaojaaa
