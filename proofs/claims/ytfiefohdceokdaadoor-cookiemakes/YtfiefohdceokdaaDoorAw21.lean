/- That the program is awake: the document's example of a period, and a code that is valid here and not there. -/
import Derived.Test.YtfiefohdceokdaaDoorCk21a
import Derived.Test.YtfiefohdceokdaaDoorEv21
import Derived.Lib.SlBytesConst
namespace Go.Proofs.YtfiefohdceokdaaDoor
open Go.ChangeShapes Go.WideShapes Go.ChangeAt Go.RowKit
set_option linter.unusedSimpArgs false
set_option linter.unusedVariables false

/-- A constant string's bytes: a new row, marked behind its end. -/
theorem Rd.marked21 {w : World} {e : TypeId} {fr : Nat × Nat} (l : List UInt8) {cs : Array Value} {n b : Nat} (h : cs = (l.map bv).toArray) (hn : n = l.length) (hb : b = w.heap.size) (hm : l.length ≤ maxLen) : Rd (w.alloc (.cells cs e fr)) (.slice (some ⟨b, 0, none⟩) n n) l := by
  subst h hn hb
  refine ⟨_, _, rfl, Nat.le_refl _, hm, (fun h => by cases h), .inr ⟨_, 0, rfl, fun i hi => ?_⟩⟩
  have hh : (w.alloc (.cells (l.map bv).toArray e fr)).heap[w.heap.size]? = some (.cells (l.map bv).toArray e fr) := by
    show (w.heap.push _)[w.heap.size]? = _
    simp
  unfold World.cell?
  rw [hh]
  simp [hi, bv]
/-- The packet's bytes. -/
abbrev pkW (w : World) : World := w.alloc (.cells #[.int .u8 112, .int .u8 97, .int .u8 99, .int .u8 107, .int .u8 101, .int .u8 116] 5 (6, 7))
abbrev onW (w : World) : World := w.alloc (.cells #[.int .u8 1] 5)
theorem pk21_rd {w : World} {b : Nat} (hb : b = w.heap.size) : Rd (pkW w) (.slice (some ⟨b, 0, none⟩) 6 6) pk21 := Rd.marked21 pk21 rfl rfl hb (by simp [pk21, maxLen])
theorem on21_rd {w : World} {b : Nat} (hb : b = w.heap.size) : Rd (onW w) (.slice (some ⟨b, 0, none⟩) 1 1) [1] := by subst hb; exact Rd.lit1 1 rfl
theorem ep21 : ((epN 25 10 : Nat) : Int) = 2 := rfl

set_option maxRecDepth 100000 in
set_option maxHeartbeats 4000000 in
theorem awake_any (w : World) (ht : Tabs w) : Calls Tryd.prog 7 #[] w fun e w' => e = .returned (.bool true) ∧ Below w.heap.size w w' := by
  have kc := fun (w : World) (C : Array Value) (n c : Nat) => Lib.run_convert_bytes_const (P := Tryd.prog) w 22 5 C n c Tryd.underlying22 Tryd.underlying5
  have kc2 : ∀ (w : World) (o : Obj) (C : Array Value) (n c : Nat), (convert 22 22 (.slice (some ⟨w.heap.size + 1, 0, none⟩) n c)).run Tryd.prog ((w.alloc o).alloc (.cells C 5)) = .ok (.slice (some ⟨w.heap.size + 1, 0, none⟩) n c) ((w.alloc o).alloc (.cells C 5 (C.size, C.size + 1))) := fun w o C n c => by
    have := kc (w.alloc o) C n c
    rwa [show (w.alloc o).heap.size = w.heap.size + 1 by simp] at this
  obtain ⟨c, hc⟩ : ∃ c, c = ckL [1] 2 hr21 := ⟨_, rfl⟩
  obtain ⟨m, hm⟩ : ∃ m, m = sgC c pk21 := ⟨_, rfl⟩
  have HL : Hid (c.length = 16 ∧ m.length = 16) := ⟨by rw [hc]; exact ckL_length .., by rw [hm]; exact sgC_length ..⟩
  have HV : Hid (vaB [1] 25 10 hr21 pk21 m = true ∧ vaB [1] 25 10 th21 pk21 m = false) := ⟨by rw [hm, hc]; exact va21_here, by rw [hm, hc]; exact va21_there⟩
  have HC : Hid (c = ckL [1] 2 hr21 ∧ m = sgC c pk21) := ⟨hc, hm⟩
  have g0 : Below w.heap.size w (onW w) := growB _
  have r0 : Rd (onW w) _ [1] := on21_rd rfl
  have HG0 : Hid (Below w.heap.size w (onW w) ∧ Rd (onW w) (.slice (some ⟨w.heap.size, 0, none⟩) 1 1) [1] ∧ Tabs (onW w)) := ⟨g0, r0, ht.kept g0⟩
  clear hc hm g0 r0 ht
  go_enter Tryd.func7, Tryd.ntmps7
  go_wp2_with fail
  refine (cmake_at _ [1] hr21 2 2 rfl _ rfl (by decide) _ HG0.out.2.1 HG0.out.2.2).mono ?_
  rintro e w1 ⟨v1, rfl, hR1, hB1⟩
  rw [← HC.out.1] at hR1
  obtain ⟨a1, c1, rfl, -⟩ := id hR1
  rw [HL.out.1] at hR1 ⊢
  have g1 : Below w1.heap.size w1 (pkW w1) := growB _
  have hb1 := stepB HG0.out.1 hB1
  have HG1 : Hid (Below w.heap.size w (pkW w1) ∧ Rd (pkW w1) (.slice a1 16 c1) c ∧ Rd (pkW w1) (.slice (some ⟨w1.heap.size, 0, none⟩) 6 6) pk21 ∧ Tabs (pkW w1)) := ⟨stepB hb1 g1, hR1.kept g1, pk21_rd rfl, (HG0.out.2.2.kept hB1).kept g1⟩
  clear hR1 hB1 g1 hb1 HG0
  go_wp2_with fail
  refine (csign_any _ _ c pk21 (by decide) _ HG1.out.2.1 HG1.out.2.2.1 HG1.out.2.2.2).mono ?_
  rintro e w2 ⟨v2, rfl, hR2, hB2⟩
  rw [← HC.out.2] at hR2
  obtain ⟨a2, c2, rfl, -⟩ := id hR2
  rw [HL.out.2] at hR2 ⊢
  have HG2 : Hid (Below w.heap.size w w2 ∧ Rd w2 (.slice a2 16 c2) m ∧ Tabs w2) := ⟨stepB HG1.out.1 hB2, hR2, HG1.out.2.2.2.kept hB2⟩
  clear hR2 hB2 HG1
  go_wp2_with fail
  refine (cepoch_at 25 10 25 10 rfl rfl (by decide) (by decide) _).mono ?_
  rintro e w3 ⟨rfl, rfl⟩
  rw [ep21]
  have g3 : Below w3.heap.size w3 (pkW (onW w3)) := stepB (growB _) (growB _)
  have HG3 : Hid (Below w.heap.size w (pkW (onW w3)) ∧ Rd (pkW (onW w3)) (.slice a2 16 c2) m ∧ Rd (pkW (onW w3)) (.slice (some ⟨w3.heap.size, 0, none⟩) 1 1) [1] ∧ Rd (pkW (onW w3)) (.slice (some ⟨w3.heap.size + 1, 0, none⟩) 6 6) pk21 ∧ Tabs (pkW (onW w3))) := ⟨stepB HG2.out.1 g3, HG2.out.2.1.kept g3, (on21_rd rfl).kept (growB _), pk21_rd (by simp), HG2.out.2.2.kept g3⟩
  clear g3 HG2
  go_wp2_with fail
  refine (cvalid_at _ _ _ [1] hr21 pk21 m 25 10 25 10 rfl rfl _ rfl (by decide) (by decide) (by decide) (by decide) _ HG3.out.2.2.1 HG3.out.2.2.2.1 HG3.out.2.1 HG3.out.2.2.2.2).mono ?_
  rintro e w4 ⟨rfl, hB4⟩
  rw [HV.out.1]
  have g4 : Below w4.heap.size w4 (pkW (onW w4)) := stepB (growB _) (growB _)
  have hb4 := stepB hB4 g4
  have HG4 : Hid (Below w.heap.size w (pkW (onW w4)) ∧ Rd (pkW (onW w4)) (.slice a2 16 c2) m ∧ Rd (pkW (onW w4)) (.slice (some ⟨w4.heap.size, 0, none⟩) 1 1) [1] ∧ Rd (pkW (onW w4)) (.slice (some ⟨w4.heap.size + 1, 0, none⟩) 6 6) pk21 ∧ Tabs (pkW (onW w4))) := ⟨stepB (stepB HG3.out.1 hB4) g4, (HG3.out.2.1.kept hB4).kept g4, (on21_rd rfl).kept (growB _), pk21_rd (by simp), (HG3.out.2.2.2.2.kept hB4).kept g4⟩
  clear g4 hb4 hB4 HG3
  go_wp2_with fail
  refine (cvalid_at _ _ _ [1] th21 pk21 m 25 10 25 10 rfl rfl _ rfl (by decide) (by decide) (by decide) (by decide) _ HG4.out.2.2.1 HG4.out.2.2.2.1 HG4.out.2.1 HG4.out.2.2.2.2).mono ?_
  rintro e w5 ⟨rfl, hB5⟩
  rw [HV.out.2]
  have HB5 : Hid (Below w.heap.size w w5) := stepB HG4.out.1 hB5
  clear hB5 HG4
  go_wp2
  go_ret
  exact ⟨rfl, HB5.out⟩
end Go.Proofs.YtfiefohdceokdaaDoor
