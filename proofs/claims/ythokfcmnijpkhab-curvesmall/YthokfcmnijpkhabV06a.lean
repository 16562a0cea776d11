/- Words as members of the field, and structs of words: contracts of package field in the field's own terms; package curve, first part. -/
import Derived.Test.YthokfcmnijpkhabBlk
import Derived.Test.YthokfcmnijpkhabCMath
import Derived.Test.YthokfcmnijpkhabF05g
import Derived.Test.YthokfcmnijpkhabF05f
namespace Go.Proofs.Ythokfcmnijpkhab
open Go.ChangeShapes Go.WideShapes Go.ChangeAt Go.RowKit
set_option linter.unusedSimpArgs false
set_option linter.unusedVariables false

/-- Four words as a member of the field. -/
def gv (l : List Nat) : FF := fv (wv l)
theorem fv_back {x y z : Nat} (h : (x + y) % pN = z % pN) : fv x = fv z - fv y := by
  have h1 : fv x + fv y = fv z := by rw [← fv_add, fv_eq]; exact h
  rw [← h1]
  generalize fv x = a
  generalize fv y = b
  grind -lia

theorem gadd_any (A B : Array Value) (a b : List Nat) (ha : El4 a) (hb : El4 b) (hA : A = ((nI a).map (Value.int .u64)).toArray) (hB : B = ((nI b).map (Value.int .u64)).toArray) (w : World) :
    Calls Try.prog 32 #[.agg A, .agg B] w fun e w' => ∃ r : List Nat, e = .returned (elV r) ∧ El4 r ∧ gv r = gv a + gv b ∧ Below w.heap.size w w' :=
  (fadd_any A B a b ha hb hA hB w).mono fun e w' ⟨r, h1, h2, h3, h4⟩ => ⟨r, h1, h2, by unfold gv; rw [← fv_add, fv_eq]; exact h3, h4⟩
theorem gsub_any (A B : Array Value) (a b : List Nat) (ha : El4 a) (hb : El4 b) (hA : A = ((nI a).map (Value.int .u64)).toArray) (hB : B = ((nI b).map (Value.int .u64)).toArray) (w : World) :
    Calls Try.prog 33 #[.agg A, .agg B] w fun e w' => ∃ r : List Nat, e = .returned (elV r) ∧ El4 r ∧ gv r = gv a - gv b ∧ Below w.heap.size w w' :=
  (fsub_any A B a b ha hb hA hB w).mono fun e w' ⟨r, h1, h2, h3, h4⟩ => ⟨r, h1, h2, fv_back h3, h4⟩
theorem gmul_any (A B : Array Value) (a b : List Nat) (ha : El4 a) (hb : El4 b) (hA : A = ((nI a).map (Value.int .u64)).toArray) (hB : B = ((nI b).map (Value.int .u64)).toArray) (w : World) :
    Calls Try.prog 26 #[.agg A, .agg B] w fun e w' => ∃ r : List Nat, e = .returned (elV r) ∧ El4 r ∧ gv r = gv a * gv b ∧ Below w.heap.size w w' :=
  (fmul_any A B a b ha hb hA hB w).mono fun e w' ⟨r, h1, h2, h3, h4⟩ => ⟨r, h1, h2, by unfold gv; rw [← fv_mul, fv_eq]; exact h3, h4⟩
theorem gsquare_any (A : Array Value) (a : List Nat) (ha : El4 a) (hA : A = ((nI a).map (Value.int .u64)).toArray) (w : World) :
    Calls Try.prog 31 #[.agg A] w fun e w' => ∃ r : List Nat, e = .returned (elV r) ∧ El4 r ∧ gv r = gv a * gv a ∧ Below w.heap.size w w' :=
  (fsquare_any A a ha hA w).mono fun e w' ⟨r, h1, h2, h3, h4⟩ => ⟨r, h1, h2, by unfold gv; rw [← fv_mul, fv_eq]; exact h3, h4⟩
theorem gtimes_any (A : Array Value) (a : List Nat) (ha : El4 a) (hA : A = ((nI a).map (Value.int .u64)).toArray) (w : World) :
    Calls Try.prog 34 #[.agg A, .int .u32 121665] w fun e w' => ∃ r : List Nat, e = .returned (elV r) ∧ El4 r ∧ gv r = 121665 * gv a ∧ Below w.heap.size w w' :=
  (ftimes_any A a 121665 121665 ha (by decide) hA rfl w).mono fun e w' ⟨r, h1, h2, h3, h4⟩ => ⟨r, h1, h2, by unfold gv; rw [← fv_c, ← fv_mul, fv_eq]; exact h3, h4⟩
theorem ginvert_any (A : Array Value) (a : List Nat) (ha : El4 a) (hA : A = ((nI a).map (Value.int .u64)).toArray) (w : World) :
    Calls Try.prog 27 #[.agg A] w fun e w' => ∃ r : List Nat, e = .returned (elV r) ∧ El4 r ∧ gv r = finv (gv a) ∧ Below w.heap.size w w' :=
  (finvert_any A a ha hA w).mono fun e w' ⟨r, h1, h2, h3, h4⟩ => ⟨r, h1, h2, by unfold gv; rw [← fv_pow, fv_eq]; exact h3, h4⟩

/-! ### Structs of words -/
/-- The cells of four words. -/
def cE (l : List Nat) : List Value := (nI l).map (Value.int .u64)
theorem cE_len {l : List Nat} (h : El4 l) : (cE l).length = 4 := by unfold cE; rw [List.length_map, h.len]
theorem cE_one (l : List Nat) : ∀ v ∈ cE l, v.oneCell' = true := by
  intro v hv
  obtain ⟨x, _, rfl⟩ := List.mem_map.1 hv
  rfl
def frC (a b : List Nat) : List Value := cE a ++ cE b
def prC (a b c d : List Nat) : List Value := frC a b ++ frC c d
theorem frC_len {a b : List Nat} (ha : El4 a) (hb : El4 b) : (frC a b).length = 8 := by rw [frC, List.length_append, cE_len ha, cE_len hb]
theorem prC_len {a b c d : List Nat} (ha : El4 a) (hb : El4 b) (hc : El4 c) (hd : El4 d) : (prC a b c d).length = 16 := by rw [prC, List.length_append, frC_len ha hb, frC_len hc hd]
theorem cE_all (l : List Nat) : (cE l).toArray.all (·.oneCell') = true := all_oneCell_toArray (cE_one l)
theorem frC_all (a b : List Nat) : (frC a b).toArray.all (·.oneCell') = true := all_oneCell_toArray fun v hv => by
  rcases List.mem_append.1 hv with h | h
  · exact cE_one a v h
  · exact cE_one b v h
theorem prC_all (a b c d : List Nat) : (prC a b c d).toArray.all (·.oneCell') = true := all_oneCell_toArray fun v hv => by
  rcases List.mem_append.1 hv with h | h
  · rcases List.mem_append.1 h with h | h
    · exact cE_one a v h
    · exact cE_one b v h
  · rcases List.mem_append.1 h with h | h
    · exact cE_one c v h
    · exact cE_one d v h
theorem infE {l : List Nat} (h : El4 l) : (Try.prog.info? 33).map (·.size) = some (cE l).length := by rw [cE_len h]; kernel_rfl
theorem infF {a b : List Nat} (ha : El4 a) (hb : El4 b) : (Try.prog.info? 41).map (·.size) = some (frC a b).length := by rw [frC_len ha hb]; kernel_rfl
theorem infP {a b c d : List Nat} (ha : El4 a) (hb : El4 b) (hc : El4 c) (hd : El4 d) : (Try.prog.info? 43).map (·.size) = some (prC a b c d).length := by rw [prC_len ha hb hc hd]; kernel_rfl
theorem allocE (w : World) : (Instr.alloc 33 true (.tuple #[])).run Try.prog w = .ok (.pointer (some ⟨w.heap.size, 0, none⟩)) (w.alloc (.cells (cE z4).toArray 33)) := by kernel_rfl
theorem allocF (w : World) : (Instr.alloc 41 true (.tuple #[])).run Try.prog w = .ok (.pointer (some ⟨w.heap.size, 0, none⟩)) (w.alloc (.cells (frC z4 z4).toArray 41)) := by kernel_rfl
theorem allocP (w : World) : (Instr.alloc 43 true (.tuple #[])).run Try.prog w = .ok (.pointer (some ⟨w.heap.size, 0, none⟩)) (w.alloc (.cells (prC z4 z4 z4 z4).toArray 43)) := by kernel_rfl
theorem buildF {a b : List Nat} (ha : El4 a) (hb : El4 b) (w : World) : (Instr.build 41 #[(0, .agg (cE a).toArray), (1, .agg (cE b).toArray)]).run Try.prog w = .ok (.agg (frC a b).toArray) w := by
  obtain ⟨p, q, r, s, rfl, -⟩ := ha.four
  obtain ⟨p', q', r', s', rfl, -⟩ := hb.four
  kernel_rfl
theorem buildF1 {a : List Nat} (ha : El4 a) (w : World) : (Instr.build 41 #[(0, .agg (cE a).toArray)]).run Try.prog w = .ok (.agg (frC a z4).toArray) w := by
  obtain ⟨p, q, r, s, rfl, -⟩ := ha.four
  kernel_rfl
theorem buildP {a b c d : List Nat} (ha : El4 a) (hb : El4 b) (hc : El4 c) (hd : El4 d) (w : World) : (Instr.build 43 #[(0, .agg (frC a b).toArray), (1, .agg (frC c d).toArray)]).run Try.prog w = .ok (.agg (prC a b c d).toArray) w := by
  obtain ⟨p, q, r, s, rfl, -⟩ := ha.four
  obtain ⟨p', q', r', s', rfl, -⟩ := hb.four
  obtain ⟨p2, q2, r2, s2, rfl, -⟩ := hc.four
  obtain ⟨p3, q3, r3, s3, rfl, -⟩ := hd.four
  kernel_rfl
end Go.Proofs.Ythokfcmnijpkhab
