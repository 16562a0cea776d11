/- What functions of the program, or of the reference, answer: contracts; several texts in one. -/
import Derived.Test.YtdlmmcilembjgaaGreatDoorGe
import Derived.Test.YtdlmmcilembjgaaGreatDoorGb
import Derived.Lib.AppendStr
import Derived.Lib.ConvBytes
import Derived.Laws.AppendOwn
import Derived.Lib.BufferWrite
import Derived.Laws.CopyOwn
import Derived.Test.YtdlmmcilembjgaaGreatDoorGf
import Derived.Lib.SlBytesConst
import Derived.Test.YtdlmmcilembjgaaGreatDoorGd
import Derived.Test.YtdlmmcilembjgaaGreatDoorGa
import Derived.Test.YtdlmmcilembjgaaGreatDoorBase
import Derived.Deep.DeepCutAuto
import Derived.OwnWalk

namespace Go.Proofs.YtdlmmcilembjgaaGreatDoor
set_option linter.unusedVariables false

def foL {β : Type} : List Nat → List Nat → (List Nat → β) → β
 | [], acc, k => k acc.reverse
 | x :: r, acc, k => match x with
  | 0 => foL r (0 :: acc) k
  | m + 1 => foL r ((m + 1) :: acc) k
theorem foL_eq {β : Type} (k : List Nat → β) : ∀ (l acc : List Nat), foL l acc k = k (acc.reverse ++ l)
 | [], acc => by simp [foL]
 | x :: r, acc => by
  cases x with
  | zero => simp [foL, foL_eq k r]
  | succ m => simp [foL, foL_eq k r]
def prG {β : Type} : Nat → Nat → List Nat → (List Nat → β) → β
 | 0, i, l, k => k l
 | n + 1, i, l, k => foL ((List.range 25).map (rdL (evS l) i)) [] fun m => prG n (i + 1) m k
theorem prG_all {β : Type} (f : Nat → Nat) (k : List Nat → β) : ∀ (n i : Nat) (l : List Nat), i + n ≤ 24 → (∀ j, evS l j < 18446744073709551616) → (∀ j, j < 25 → rdsF f i j = evS l j) →
  ∃ m, prG n i l k = k m ∧ (∀ j, evS m j < 18446744073709551616) ∧ ∀ j, j < 25 → rdsF f (i + n) j = evS m j
 | 0, i, l, _, hl, h => ⟨l, rfl, hl, h⟩
 | n + 1, i, l, hi, hl, h => by
  have hm : ∀ j, j < 25 → evS ((List.range 25).map (rdL (evS l) i)) j = rdL (evS l) i j := fun j hj => by
   unfold evS
   simp [List.getD, hj]
  have hb : ∀ j, evS ((List.range 25).map (rdL (evS l) i)) j < 18446744073709551616 := fun j => by
   by_cases hj : j < 25
   ·rw [hm j hj]
    exact rdL_lt _ hl i (by omega) j
   ·have e : evS ((List.range 25).map (rdL (evS l) i)) j = 0 := by
     unfold evS
     simp [List.getD, List.getElem?_eq_none (show (List.range 25).length ≤ j by simp; omega)]
    rw [e]
    decide
  have hs := evS_step f i (by omega) l ((List.range 25).map (rdL (evS l) i)) hl (fun j hj => (hm j hj).symm) h
  obtain ⟨m, h1, h2, h3⟩ := prG_all f k n (i + 1) _ (by omega) hb hs
  refine ⟨m, ?_, h2, ?_⟩
  ·show foL _ [] _ = _
   rw [foL_eq]
   exact h1
  ·rw [show i + (n + 1) = i + 1 + n by omega]
   exact h3
end Go.Proofs.YtdlmmcilembjgaaGreatDoor

namespace Go.Proofs.YtdlmmcilembjgaaGreatDoor
set_option linter.unusedSimpArgs false
set_option linter.unusedVariables false

def foB {β : Type} (l : List UInt8) (k : List UInt8 → β) : β := foL (l.map UInt8.toNat) [] fun m => k (m.map UInt8.ofNat)
theorem foB_eq {β : Type} (l : List UInt8) (k : List UInt8 → β) : foB l k = k l := by
 unfold foB
 rw [foL_eq]
 simp [Function.comp_def]
def abG {β : Type} (l : List UInt8) : Nat → Nat → List Nat → (List Nat → β) → β
 | 0, b, S, k => foL ((List.range 25).map fun j => evS S j ^^^ xbl (lasB 136 6 l) 136 j) [] fun m => prG 24 0 m k
 | n + 1, b, S, k => foL ((List.range 25).map fun j => evS S j ^^^ xbl (fun t => l.getD (b * 136 + t) 0) 136 j) [] fun m => prG 24 0 m fun m2 => abG l n (b + 1) m2 k
theorem xor_ltF {a b : Nat} (ha : a < 18446744073709551616) (hb : b < 18446744073709551616) : a ^^^ b < 18446744073709551616 := Nat.xor_lt_two_pow (n := 64) ha hb
theorem blk_all {β : Type} (F : Nat → Nat) (S : List Nat) (blk : Nat → UInt8) (k : List Nat → β) (hS : ∀ j, evS S j < 18446744073709551616) (h : ∀ j, j < 25 → F j = evS S j) :
  ∃ m, (foL ((List.range 25).map fun j => evS S j ^^^ xbl blk 136 j) [] fun m => prG 24 0 m k) = k m ∧ (∀ j, evS m j < 18446744073709551616) ∧ ∀ j, j < 25 → tkF F blk 136 j = evS m j := by
 have hm : ∀ j, j < 25 → evS ((List.range 25).map fun j => evS S j ^^^ xbl blk 136 j) j = evS S j ^^^ xbl blk 136 j := fun j hj => by
  show List.getD _ j 0 = _
  simp [List.getD, hj]
 have hb : ∀ j, evS ((List.range 25).map fun j => evS S j ^^^ xbl blk 136 j) j < 18446744073709551616 := fun j => by
  by_cases hj : j < 25
  ·rw [hm j hj]
   exact xor_ltF (hS j) (xbl_lt _ _ _)
  ·have e : evS ((List.range 25).map fun j => evS S j ^^^ xbl blk 136 j) j = 0 := by
    show List.getD _ j 0 = _
    simp [List.getD, List.getElem?_eq_none (show (List.range 25).length ≤ j by simp; omega)]
   rw [e]
   decide
 obtain ⟨m, h1, h2, h3⟩ := prG_all (fun j => F j ^^^ xbl blk 136 j) k 24 0 _ (Nat.le_refl _) hb (fun j hj => by rw [hm j hj, ← h j hj]; rfl)
 refine ⟨m, ?_, h2, h3⟩
 rw [foL_eq]
 exact h1
theorem abG_all {β : Type} (l : List UInt8) (k : List Nat → β) : ∀ (n b : Nat) (S : List Nat), b + n = l.length / 136 → (∀ j, evS S j < 18446744073709551616) → (∀ j, j < 25 → fuN 136 l b j = evS S j) →
  ∃ m, abG l n b S k = k m ∧ ∀ j, j < 25 → abF 136 6 l j = evS m j
 | 0, b, S, hb, hS, h => by
  obtain ⟨m, h1, h2, h3⟩ := blk_all (fuN 136 l b) S (lasB 136 6 l) k hS h
  refine ⟨m, h1, fun j hj => ?_⟩
  have e : abF 136 6 l = abN 136 (padL 136 6 l) (blN 136 l) := by unfold abF; rw [if_pos (by decide)]; rfl
  rw [e, abs_eq 136 6 l (by decide) j hj, ← hb]
  exact h3 j hj
 | n + 1, b, S, hb, hS, h => by
  obtain ⟨m, h1, h2, h3⟩ := blk_all (fuN 136 l b) S (fun t => l.getD (b * 136 + t) 0) (fun m2 => abG l n (b + 1) m2 k) hS h
  obtain ⟨m2, g1, g2⟩ := abG_all l k n (b + 1) m (by omega) h2 h3
  exact ⟨m2, h1.trans g1, g2⟩
def s2G {β : Type} (l : List UInt8) (k : List UInt8 → β) : β := foB l fun l => abG l (l.length / 136) 0 [] fun m => foB (bsP (evS m) 32) k
theorem s2G_eq {β : Type} (l : List UInt8) (k : List UInt8 → β) : s2G l k = k (s2L l) := by
 unfold s2G
 rw [foB_eq]
 obtain ⟨m, h1, h2⟩ := abG_all l (fun m => foB (bsP (evS m) 32) k) (l.length / 136) 0 [] (by omega) (fun j => by show (0 : Nat) < _; decide) (fun j hj => rfl)
 rw [h1, foB_eq]
 congr 1
 unfold s2L otL bsP
 refine List.map_congr_left fun t ht => ?_
 have ht2 : t < 32 := List.mem_range.1 ht
 unfold smF
 rw [Nat.div_eq_of_lt (by omega), Nat.mod_eq_of_lt (by omega)]
 show byF (evS m) t = byF (abF 136 6 l) t
 unfold byF
 rw [h2 _ (by omega)]
def mcG {β : Type} (key b : List UInt8) (k : List UInt8 → β) : β := s2G (mxP (kyL key) 54 136 ++ b) fun i => s2G (mxP (kyL key) 92 136 ++ i) k
theorem mcG_eq {β : Type} (key b : List UInt8) (k : List UInt8 → β) : mcG key b k = k (mcF key b) := by
 unfold mcG mcF
 rw [s2G_eq, s2G_eq]
def k1G {β : Type} (ck b : List UInt8) (k : List UInt8 → β) : β := mcG ck b fun t => mcG t [1] k
theorem k1G_eq {β : Type} (ck b : List UInt8) (k : List UInt8 → β) : k1G ck b k = k (k1F ck b) := by
 unfold k1G k1F
 rw [mcG_eq, mcG_eq]
def k2G {β : Type} (ck b : List UInt8) (k : List UInt8 → List UInt8 → β) : β := mcG ck b fun t => mcG t [1] fun a => mcG t (a ++ [2]) fun c => k a c
theorem k2G_eq {β : Type} (ck b : List UInt8) (k : List UInt8 → List UInt8 → β) : k2G ck b k = k (k1F ck b) (k2F ck b) := by
 unfold k2G k2F k1F
 rw [mcG_eq, mcG_eq, mcG_eq]
end Go.Proofs.YtdlmmcilembjgaaGreatDoor

namespace Go.Proofs.YtdlmmcilembjgaaGreatDoor
set_option linter.unusedVariables false

def nm16 : List UInt8 := [97, 32, 110, 97, 109, 101] ++ List.replicate 26 0
def ck16a : List UInt8 := [184, 94, 74, 34, 109, 184, 57, 134, 144, 93, 83, 35, 144, 153, 51, 181, 179, 159, 157, 125, 244, 61, 189, 55, 231, 12, 14, 93, 116, 116, 167, 52]
def ck16b : List UInt8 := [243, 143, 174, 233, 4, 87, 25, 40, 97, 111, 103, 82, 227, 134, 36, 9, 220, 240, 246, 224, 88, 117, 19, 107, 38, 147, 114, 76, 130, 25, 219, 219]
def ky16a : List UInt8 := [104, 74, 91, 226, 42, 131, 177, 125, 4, 87, 186, 235, 71, 205, 234, 27, 100, 210, 0, 139, 28, 91, 16, 140, 51, 106, 2, 103, 2, 242, 33, 216]
def ky16b : List UInt8 := [229, 57, 82, 146, 52, 161, 150, 159, 240, 40, 69, 211, 230, 137, 198, 254, 214, 127, 166, 234, 133, 249, 135, 107, 203, 17, 121, 227, 214, 64, 137, 125]
theorem ck16a_on : k1G nm16 [1] (fun c => decide (c = ck16a)) = true := by decide +kernel
theorem ck16b_on : k1G ck16a [] (fun c => decide (c = ck16b)) = true := by decide +kernel
theorem ky16_on : k2G ck16b [] (fun c d => decide (c = ky16a ∧ d = ky16b)) = true := by decide +kernel
theorem ck16a_is : k1F nm16 [1] = ck16a := by
 have h := ck16a_on
 rw [k1G_eq] at h
 exact of_decide_eq_true h
theorem ck16b_is : k1F ck16a [] = ck16b := by
 have h := ck16b_on
 rw [k1G_eq] at h
 exact of_decide_eq_true h
theorem ky16_is : k1F ck16b [] = ky16a ∧ k2F ck16b [] = ky16b := by
 have h := ky16_on
 rw [k2G_eq] at h
 exact of_decide_eq_true h
end Go.Proofs.YtdlmmcilembjgaaGreatDoor

namespace Go.Proofs.YtdlmmcilembjgaaGreatDoor
open Go.ChangeShapes Go.WideShapes Go.ChangeAt Go.RowKit
set_option linter.unusedSimpArgs false
set_option linter.unusedVariables false

theorem wpList_append_text {P : Program} {wr : World} {ops : Array Oper} {rest : List Oper} {o : Oper} {a : Act} {Q : Exit → Act → World → Prop} (hg : o.guard = none) (s x : Operand) (t u : TypeId)
  (ho : o.op = .call { callee := .builtin .append, args := #[s, x], argTypes := #[t, u] }) (e : TypeId) (ht : P.underlying t = some (.slice e)) (hu : P.underlying u = some .string)
  (hinfo : (P.info? e).map (fun i => (i.zero, i.size, i.bytes)) = some (some (.int .u8 0), 1, 1)) (l : List UInt8) (hs : a.eval s = .slice none 0 0) (hx : a.eval x = .string ⟨l.toArray⟩) (hlen : l.length ≤ 140737488355328)
  (h : ∀ v' w', New e wr v' l w' → wpList P ops Q rest (a.put o.dst v') w') : wpList P ops Q (o :: rest) a wr := by
 obtain ⟨i, hi, hz0, hz1, hz2⟩ := info_parts hinfo
 have hsz : (⟨l.toArray⟩ : ByteArray).size = l.length := by simp [ByteArray.size]
 refine Lib.wpList_append_own_string (P := P) wr hg s x t u ho wr.heap.size e i ht hu hi hz0 hz1 hz2 (.slice none 0 0) 0 [] hs (World.ownsRow_nil _ _ _ _) ⟨l.toArray⟩ hx (by rw [hsz]; unfold maxLen; omega) (by rw [hsz]; omega) (Nat.le_refl _) ?_
 intro v' w' h1 h2 h3
 refine h v' w' ⟨?_, ?_⟩
 ·rw [hsz, Nat.zero_add] at h1
  exact h1
 ·exact (Chg.of_grown h2).none fun k _ e => by simp [Value.ownBlock] at e
theorem wpList_copy_text {P : Program} {w wr : World} {ops : Array Oper} {rest : List Oper} {o : Oper} {a : Act} {Q : Exit → Act → World → Prop} (hg : o.guard = none) (d s : Operand) (t u : TypeId)
  (ho : o.op = .call { callee := .builtin .copy, args := #[d, s], argTypes := #[t, u] }) (e : TypeId) (ht : P.underlying t = some (.slice e)) (hsz : (P.info? e).map (·.size) = some 1)
  (v : Value) (l : List UInt8) (hs : a.eval d = v) (hN : New e w v l wr) (l2 : List UInt8) (hx : a.eval s = .string ⟨l2.toArray⟩) (hlen : l2.length ≤ l.length) (hne : l ≠ [])
  (h : ∀ w', New e w v (l2 ++ l.drop l2.length) w' → wpList P ops Q rest (a.put o.dst (goInt l2.length)) w') : wpList P ops Q (o :: rest) a wr := by
 have hpos : 0 < l.length := List.length_pos_iff.2 hne
 rcases hN.1.2 with ⟨h', h0⟩ | ⟨g, cap, cur, rfl, hb, hgh, hn, hm, hss, htk⟩
 ·omega
 have hsz2 : cur.size = cap := by simpa using hss
 have hs2 : (⟨l2.toArray⟩ : ByteArray).size = l2.length := by simp [ByteArray.size]
 have hr := Lib.run_copy_row_string (P := P) wr t u o.type e g 0 l.length cap ⟨l2.toArray⟩ cur e ht hsz hgh (by rw [hs2]; exact hlen) (by rw [hs2]; omega)
 refine wpList_plain hg fun K hK => ?_
 unfold Oper.wp execOp
 simp only [ho, resolve, invoke, builtin, Sem.run_bind, Sem.run_pure, Result.andThen_ok, List.map_toArray, List.map_cons, List.map_nil, hs, hx, hr]
 rw [hs2] at *
 refine hK _ _ (h _ ?_)
 have e1 : cur.toList.take l.length = l.map bv := by simpa using htk
 have ec : Lib.byteCells (⟨l2.toArray⟩ : ByteArray).data.toList = l2.map bv := by simp [Lib.byteCells, bv]
 refine ⟨⟨by simp, .inr ⟨g, cap, _, ?_, hb, setRow_heap wr g _ _ e _ hgh, ?_, hm, ?_, ?_⟩⟩, below_setRow hN.2 hb _⟩
 ·rw [show (l2 ++ l.drop l2.length).length = l.length by simp; omega]
 ·simp; omega
 ·rw [ec]; simp; omega
 ·rw [ec, show (l2 ++ l.drop l2.length).length * 1 = l2.length + (l.length - l2.length) by simp]
  simp only [List.take_zero, List.nil_append, Nat.zero_add]
  rw [show l2.length + (l.length - l2.length) = (l2.map bv).length + (l.length - l2.length) by simp, List.take_length_add_append, List.map_append, List.map_drop, ← e1, List.drop_take]
theorem wpList_conv_text {P : Program} {w : World} {ops : Array Oper} {rest : List Oper} {o : Oper} {a : Act} {Q : Exit → Act → World → Prop} (hg : o.guard = none) (x : Operand) (src dst e : TypeId) (ho : o.op = .convert src dst x)
  (hs : P.underlying src = some .string) (hd : P.underlying dst = some (.slice e)) (he : P.underlying e = some (.int .u8)) (l : List UInt8) (hx : a.eval x = .string ⟨l.toArray⟩) (hm : l.length ≤ maxLen)
  (h : ∀ v w', Rd w' v l → Below w.heap.size w w' → wpList P ops Q rest (a.put o.dst v) w') : wpList P ops Q (o :: rest) a w := by
 have hsz : (⟨l.toArray⟩ : ByteArray).size = l.length := by simp [ByteArray.size]
 have hr := Lib.run_convert_string_bytes (P := P) w src dst e ⟨l.toArray⟩ hs hd he
 refine wpList_plain hg fun K hK => ?_
 unfold Oper.wp execOp
 simp only [ho, hx, Sem.run_bind, hr, Result.andThen_ok, Sem.run_pure]
 refine hK _ _ (h _ _ ⟨_, _, by rw [hsz], grownCap_ge _ _ _ _, grownCap_le_maxLen _ _ _ _ hm, (fun h => by cases h), .inr ⟨_, 0, rfl, fun i hi => ?_⟩⟩ ?_)
 ·rw [Nat.zero_add, Lib.bytesWorld_cell w e _ i (by rw [hsz]; exact hi)]
 ·exact ⟨rfl, rfl, rfl, by rw [Lib.bytesWorld_size]; omega, fun i hi => Lib.bytesWorld_at_old w e _ i hi⟩
def StP (base g : Nat) (s : Sta) (w : World) : Prop := ∃ vc vh vk, BlkAt g 44 (stD vc vh vk s.c.n) w ∧ Ow 5 base vc s.ck w ∧ Ow 5 base vh s.h w ∧ Ow 5 base vk s.c.key w
theorem ne_state : (5 : TypeId) ≠ 44 := by decide
theorem ne_cipher : (5 : TypeId) ≠ 42 := by decide
theorem StP.kept {base g : Nat} {s : Sta} {w w' : World} (h : StP base g s w) (hb : Below w.heap.size w w') : StP base g s w' := by
 obtain ⟨vc, vh, vk, h1, h2, h3, h4⟩ := h
 exact ⟨vc, vh, vk, h1.kept hb, h2.kept hb, h3.kept hb, h4.kept hb⟩
theorem StP.lt {base g : Nat} {s : Sta} {w : World} (h : StP base g s w) : g < w.heap.size := by
 obtain ⟨vc, vh, vk, h1, -⟩ := h
 exact h1.lt
theorem StP.other {base g g2 : Nat} {s s2 : Sta} {w w' : World} (h : StP base g s w) (h2 : StP base g2 s2 w) (c : Chg (fun b => b = g2) w w') (hne : g ≠ g2) : StP base g s w' := by
 obtain ⟨vc, vh, vk, q1, q2, q3, q4⟩ := h
 obtain ⟨uc, uh, uk, p1, -⟩ := h2
 exact ⟨vc, vh, vk, q1.chg c hne, q2.chg p1 ne_state c, q3.chg p1 ne_state c, q4.chg p1 ne_state c⟩
theorem StP.row {base g b : Nat} {s : Sta} {w w' : World} (h : StP base g s w) (c : Chg (fun i => i = b) w w') (hg : g ≠ b) (hb : ∀ v l, Ow 5 base v l w → (l = s.ck ∨ l = s.h ∨ l = s.c.key) → v.ownBlock ≠ some b) : StP base g s w' := by
 obtain ⟨vc, vh, vk, q1, q2, q3, q4⟩ := h
 exact ⟨vc, vh, vk, q1.chg c hg, q2.other c (hb _ _ q2 (.inl rfl)), q3.other c (hb _ _ q3 (.inr (.inl rfl))), q4.other c (hb _ _ q4 (.inr (.inr rfl)))⟩
theorem StP.far {base g : Nat} {s : Sta} {w w' : World} {v : Value} {l : List UInt8} (h : Rd w v l) (hs : StP base g s w) (c : Chg (fun b => b = g) w w') : Rd w' v l := by
 obtain ⟨vc, vh, vk, h1, h2, h3, h4⟩ := hs
 obtain ⟨a1, c1, rfl, -⟩ := h2.rd
 obtain ⟨a2, c2, rfl, -⟩ := h3.rd
 obtain ⟨a3, c3, rfl, -⟩ := h4.rd
 exact h.past16 h1 (stD_no8 _ _ _ _ _ _ _ _ _ _) c
theorem StP.own {base base2 g : Nat} {s : Sta} {w w' : World} {v : Value} {l : List UInt8} (h : Ow 5 base2 v l w) (hs : StP base g s w) (c : Chg (fun b => b = g) w w') : Ow 5 base2 v l w' := by
 obtain ⟨vc, vh, vk, h1, -⟩ := hs
 exact h.chg h1 ne_state c

theorem build_kc (a : Option Addr) (l c : Nat) (w : World) : (Instr.build 42 #[(0, .slice a l c)]).run Tryz.prog w = .ok (.agg #[.slice a l c, .int .u64 0]) w := by kernel_rfl
theorem info_kc (vk : Value) (n : Nat) : (Tryz.prog.info? 42).map (·.size) = some (ckD vk n).length := by
 show _ = some 2
 kernel_rfl
theorem ckD_all (a : Option Addr) (l c n : Nat) : (ckD (.slice a l c) n).toArray.all (·.oneCell') = true := by kernel_rfl
theorem alloc_kc (w : World) : (Instr.alloc 42 true (.tuple #[])).run Tryz.prog w = .ok (.pointer (some ⟨w.heap.size, 0, none⟩)) (w.alloc (.cells (ckD (.slice none 0 0) 0).toArray 42)) := by kernel_rfl

set_option maxRecDepth 100000 in
set_option maxHeartbeats 2000000 in
theorem smixhash_any (base g : Nat) (s : Sta) (vb : Value) (b : List UInt8) (hl : s.h.length + b.length ≤ 100000000) (w : World) (hbase : base ≤ w.heap.size) (hS : StP base g s w) (hb : Rd w vb b) (ht : Tabs w) :
  Calls Tryz.prog 10 #[.pointer (some ⟨g, 0, none⟩), vb] w fun e w' => e = .returned (.tuple #[]) ∧ StP base g (mhS s b) w' ∧ Chg (fun i => i = g) w w' := by
 obtain ⟨ck, h, ⟨key, n⟩⟩ := s
 obtain ⟨vc, vh, vk, hB, hc, hh, hk⟩ := hS
 replace hB : BlkAt g 44 (stD vc vh vk n) w := hB
 replace hc : Ow 5 base vc ck w := hc
 replace hh : Ow 5 base vh h w := hh
 replace hk : Ow 5 base vk key w := hk
 obtain ⟨ac, cc, rfl, -⟩ := id hc.rd
 obtain ⟨ah, ch, rfl, -⟩ := id hh.rd
 obtain ⟨ak, ck', rfl, -⟩ := id hk.rd
 obtain ⟨ab, cb, rfl, -⟩ := id hb
 have c1 : w.cell? ⟨g, 1, none⟩ = some (.slice ah h.length ch) := hB.cell 1
 have HB : Hid (BlkAt g 44 _ w) := hB
 have HC : Hid (Ow 5 base _ ck w) := hc
 have HH : Hid (Ow 5 base _ h w) := hh
 have HK : Hid (Ow 5 base _ key w) := hk
 have HBb : Hid (Rd w _ b) := hb
 have HT : Hid (Tabs w) := ht
 have HL : Hid (totL [h, b] ≤ 1000000000) := (by have : h.length + b.length ≤ 100000000 := hl; simp [totL]; omega : totL [h, b] ≤ 1000000000)
 have HBs : Hid _ := hbase
 have HM : Hid (mhS ⟨ck, h, ⟨key, n⟩⟩ b = ⟨ck, s2L (h ++ b), ⟨key, n⟩⟩) := rfl
 generalize mhS ⟨ck, h, ⟨key, n⟩⟩ b = M at HM ⊢
 clear hl hB hc hh hk hb ht hbase
 go_enter Tryz.func10, Tryz.ntmps10
 go_wp2_with fail
 refine (join_any _ _ _ _ (RdL.lit2b (e := 26) rfl HH.out.rd HBb.out) HL.out).mono ?_
 rintro e w1 ⟨v1, rfl, hN1⟩
 have b1 := stepB (growB _) hN1.2
 have HR : Hid (Rd w1 v1 (h ++ b)) := hN1.two.rd
 clear hN1 c1
 go_wp2_with fail
 refine (sum256_any _ (h ++ b) _ HR.out (HT.out.kept b1)).mono ?_
 rintro e w2 ⟨v2, rfl, hN2⟩
 have b2 := stepB b1 hN2.2
 have hO : Ow 5 base v2 (s2L (h ++ b)) w2 := Ow.mono (Ow.of_new hN2) (Nat.le_trans HBs.out b1.size)
 obtain ⟨X, hX⟩ : ∃ X, X = s2L (h ++ b) := ⟨_, rfl⟩
 rw [← hX] at hO
 have HX : Hid (X = s2L (h ++ b)) := hX
 obtain ⟨a2, c2, rfl, -⟩ := id hO.rd
 have HO : Hid (Ow 5 base _ X w2) := hO
 have hB2 := HB.out.kept b2
 have c1 : w2.cell? ⟨g, 1, none⟩ = some (.slice ah h.length ch) := hB2.cell 1
 have f1 : w2.frozen? ⟨g, 1, none⟩ = false := hB2.free _
 have HB2 : Hid (BlkAt g 44 _ w2) := hB2
 have HBw : Hid (Below w.heap.size w w2) := b2
 clear hN2 b1 b2 hB2 hX hO HR
 go_wp2_with fail
 go_end0
 have hw : Wrote g w2 (w2.setCell ⟨g, 1, none⟩ (.slice a2 X.length c2)) := Wrote.set _ _ _ _
 have cw := Chg.of_wrote hw
 have hB3 : BlkAt g 44 (stD (.slice ac ck.length cc) (.slice a2 X.length c2) (.slice ak key.length ck') n) _ := BlkAt.set HB2.out 1 (.slice a2 X.length c2)
 refine ⟨rfl, ?_, (Chg.of_below HBw.out).trans cw⟩
 rw [HM.out, ← HX.out]
 exact ⟨_, _, _, hB3, (HC.out.kept HBw.out).chg HB2.out ne_state cw, HO.out.chg HB2.out ne_state cw, (HK.out.kept HBw.out).chg HB2.out ne_state cw⟩
theorem part_st (vc vh vk : Value) (n : Nat) : stD vc vh vk n = [vc, vh] ++ ckD vk n ++ [] := rfl

set_option maxRecDepth 100000 in
set_option maxHeartbeats 2000000 in
theorem smixkey_any (base g : Nat) (s : Sta) (vb : Value) (b : List UInt8) (hl : b.length ≤ 100000) (w : World) (hbase : base ≤ w.heap.size) (hS : StP base g s w) (hb : Rd w vb b) (ht : Tabs w) :
  Calls Tryz.prog 8 #[.pointer (some ⟨g, 0, none⟩), vb] w fun e w' => e = .returned (.tuple #[]) ∧ StP base g (mkS s b) w' ∧ Chg (fun i => i = g) w w' := by
 obtain ⟨ck, h, ⟨key, n⟩⟩ := s
 obtain ⟨vc, vh, vk, hB, hc, hh, hk⟩ := hS
 replace hB : BlkAt g 44 (stD vc vh vk n) w := hB
 replace hc : Ow 5 base vc ck w := hc
 replace hh : Ow 5 base vh h w := hh
 replace hk : Ow 5 base vk key w := hk
 obtain ⟨ac, cc, rfl, -⟩ := id hc.rd
 obtain ⟨ah, ch, rfl, -⟩ := id hh.rd
 obtain ⟨ak, ck', rfl, -⟩ := id hk.rd
 have c0 : w.cell? ⟨g, 0, none⟩ = some (.slice ac ck.length cc) := hB.cell 0
 have HB : Hid (BlkAt g 44 _ w) := hB
 have HC : Hid (Ow 5 base _ ck w) := hc
 have HH : Hid (Ow 5 base _ h w) := hh
 have HBb : Hid (Rd w _ b) := hb
 have HT : Hid (Tabs w) := ht
 have HL : Hid (b.length ≤ 100000) := hl
 have HBs : Hid _ := hbase
 have HM : Hid (mkS ⟨ck, h, ⟨key, n⟩⟩ b = ⟨k1F ck b, h, ⟨k2F ck b, 0⟩⟩) := rfl
 generalize mkS ⟨ck, h, ⟨key, n⟩⟩ b = M at HM ⊢
 clear hl hB hc hh hk hb ht hbase
 go_enter Tryz.func8, Tryz.ntmps8
 go_wp2_with fail
 refine (two_own _ _ ck b HL.out _ HC.out.rd HBb.out HT.out).mono ?_
 rintro e w2 ⟨v1, v2, rfl, hO1, hO2, b2⟩
 replace hO1 := hO1.mono HBs.out
 replace hO2 := hO2.mono HBs.out
 generalize k1F ck b = X at HM hO1
 generalize k2F ck b = Y at HM hO2
 obtain ⟨a1, d1, rfl, -⟩ := id hO1.rd
 obtain ⟨a2, d2, rfl, -⟩ := id hO2.rd
 have hB2 := HB.out.kept b2
 have c1 : w2.cell? ⟨g, 0, none⟩ = some (.slice ac ck.length cc) := hB2.cell 0
 have f1 : w2.frozen? ⟨g, 0, none⟩ = false := hB2.free _
 have r3 : BlkAt g 44 (stD (.slice a1 X.length d1) (.slice ah h.length ch) (.slice ak key.length ck') n) (w2.setCell ⟨g, 0, none⟩ (.slice a1 X.length d1)) := BlkAt.set hB2 0 (.slice a1 X.length d1)
 have HB2 : Hid (BlkAt g 44 _ w2) := hB2
 have HBw : Hid (Below w.heap.size w w2) := b2
 have HO1 : Hid (Ow 5 base _ X w2) := hO1
 have HO2 : Hid (Ow 5 base _ Y w2) := hO2
 clear b2 hB2 hO1 hO2 c0
 go_wp2_with (first | refine wpList_buildB rfl 42 #[(0, .tmp 20)] rfl #[(0, .slice a2 Y.length d2)] (by go_simp) (.agg #[.slice a2 Y.length d2, .int .u64 0]) (build_kc _ _ _ _) ?_ | (refine wpList_store_part rfl 42 _ _ rfl rfl (ckD (.slice a2 Y.length d2) 0) rfl [.slice a1 X.length d1, .slice ah h.length ch] (ckD (.slice ak key.length ck') n) [] (stD (.slice a1 X.length d1) (.slice ah h.length ch) (.slice a2 Y.length d2) 0) r3 (part_st _ _ _ _) (part_st _ _ _ _) rfl rfl (info_kc (.slice ak key.length ck') n) (ckD_all _ _ _ _) ?_; intro w7 r7 hw7))
 go_end0
 have hw : Wrote g w2 (w2.setCell ⟨g, 0, none⟩ (.slice a1 X.length d1)) := Wrote.set _ _ _ _
 have cw := (Chg.of_wrote hw).trans (Chg.of_wrote hw7)
 refine ⟨rfl, ?_, (Chg.of_below HBw.out).trans cw⟩
 rw [HM.out]
 exact ⟨_, _, _, r7, HO1.out.chg HB2.out ne_state cw, (HH.out.kept HBw.out).chg HB2.out ne_state cw, HO2.out.chg HB2.out ne_state cw⟩

set_option maxRecDepth 100000 in
set_option maxHeartbeats 2000000 in
theorem smixboth_any (base g : Nat) (s : Sta) (vb : Value) (b : List UInt8) (hl : b.length ≤ 100000) (hlh : s.h.length ≤ 100000) (w : World) (hbase : base ≤ w.heap.size) (hbg : base ≤ g) (hS : StP base g s w) (hb : Rd w vb b) (w0 : World) (hw0 : w0.heap.size = base) (hbw0 : Below w0.heap.size w0 w) (ht : Tabs w0) :
  Calls Tryz.prog 12 #[.pointer (some ⟨g, 0, none⟩), vb] w fun e w' => e = .returned (.tuple #[]) ∧ StP base g (mbS s b) w' ∧ Chg (fun i => i = g) w w' := by
 obtain ⟨ck, h, ⟨key, n⟩⟩ := s
 obtain ⟨vc, vh, vk, hB, hc, hh, hk⟩ := hS
 replace hB : BlkAt g 44 (stD vc vh vk n) w := hB
 replace hc : Ow 5 base vc ck w := hc
 replace hh : Ow 5 base vh h w := hh
 replace hk : Ow 5 base vk key w := hk
 obtain ⟨ac, cc, rfl, -⟩ := id hc.rd
 obtain ⟨ah, ch, rfl, -⟩ := id hh.rd
 obtain ⟨ak, ck', rfl, -⟩ := id hk.rd
 have c0 : w.cell? ⟨g, 0, none⟩ = some (.slice ac ck.length cc) := hB.cell 0
 have HB : Hid (BlkAt g 44 _ w) := hB
 have HC : Hid (Ow 5 base _ ck w) := hc
 have HH : Hid (Ow 5 base _ h w) := hh
 have HBb : Hid (Rd w _ b) := hb
 have HT : Hid (Tabs w0) := ht
 have HL : Hid (b.length ≤ 100000) := hl
 have HLh : Hid (h.length ≤ 100000) := hlh
 have HBs : Hid _ := hbase
 have HBg : Hid _ := hbg
 have HW0 : Hid _ := hw0
 have HBW0 : Hid (Below w0.heap.size w0 w) := hbw0
 have HM : Hid (mbS ⟨ck, h, ⟨key, n⟩⟩ b = ⟨k1F ck b, s2L (h ++ k2F ck b), ⟨k3F ck b, 0⟩⟩) := rfl
 have HLY : Hid ((k2F ck b).length = 32) := mcF_length _ _
 generalize mbS ⟨ck, h, ⟨key, n⟩⟩ b = M at HM ⊢
 clear hl hB hc hh hk hb ht hbase hbg hw0 hbw0 hlh
 go_enter Tryz.func12, Tryz.ntmps12
 go_wp2_with fail
 refine (three_own _ _ ck b HL.out _ HC.out.rd HBb.out (HT.out.kept HBW0.out)).mono ?_
 rintro e w2 ⟨v1, v2, v3, rfl, hO1, hO2, hO3, b2⟩
 replace hO1 := hO1.mono HBs.out
 replace hO2 := hO2.mono HBs.out
 replace hO3 := hO3.mono HBs.out
 generalize k1F ck b = X at HM hO1
 generalize k2F ck b = Y at HM hO2 HLY
 generalize k3F ck b = Z at HM hO3
 obtain ⟨a1, d1, rfl, -⟩ := id hO1.rd
 obtain ⟨a2, d2, rfl, -⟩ := id hO2.rd
 obtain ⟨a3, d3, rfl, -⟩ := id hO3.rd
 have hB2 := HB.out.kept b2
 have c1 : w2.cell? ⟨g, 0, none⟩ = some (.slice ac ck.length cc) := hB2.cell 0
 have f1 : w2.frozen? ⟨g, 0, none⟩ = false := hB2.free _
 have r3 : BlkAt g 44 (stD (.slice a1 X.length d1) (.slice ah h.length ch) (.slice ak key.length ck') n) (w2.setCell ⟨g, 0, none⟩ (.slice a1 X.length d1)) := BlkAt.set hB2 0 (.slice a1 X.length d1)
 have HB2 : Hid (BlkAt g 44 _ w2) := hB2
 have HBw : Hid (Below w.heap.size w w2) := b2
 have HO1 : Hid (Ow 5 base _ X w2) := hO1
 have HO2 : Hid (Ow 5 base _ Y w2) := hO2
 have HO3 : Hid (Ow 5 base _ Z w2) := hO3
 clear b2 hB2 hO1 hO2 hO3 c0
 go_wp2_with (first | refine wpList_buildB rfl 42 #[(0, .tmp 22)] rfl #[(0, .slice a3 Z.length d3)] (by go_simp) (.agg #[.slice a3 Z.length d3, .int .u64 0]) (build_kc _ _ _ _) ?_ | (refine wpList_store_part rfl 42 _ _ rfl rfl (ckD (.slice a3 Z.length d3) 0) rfl [.slice a1 X.length d1, .slice ah h.length ch] (ckD (.slice ak key.length ck') n) [] (stD (.slice a1 X.length d1) (.slice ah h.length ch) (.slice a3 Z.length d3) 0) r3 (part_st _ _ _ _) (part_st _ _ _ _) rfl rfl (info_kc (.slice ak key.length ck') n) (ckD_all _ _ _ _) ?_; intro w7 r7 hw7))
 have hw : Wrote g w2 (w2.setCell ⟨g, 0, none⟩ (.slice a1 X.length d1)) := Wrote.set _ _ _ _
 have cw := (Chg.of_wrote hw).trans (Chg.of_wrote hw7)
 have hS7 : StP base g ⟨X, h, ⟨Z, 0⟩⟩ w7 := ⟨_, _, _, r7, HO1.out.chg HB2.out ne_state cw, (HH.out.kept HBw.out).chg HB2.out ne_state cw, HO3.out.chg HB2.out ne_state cw⟩
 have hY7 := (HO2.out.chg HB2.out ne_state cw).rd
 have cW := (Chg.of_below HBw.out).trans cw
 have bW : Below w0.heap.size w0 w7 := Chg.gone HBW0.out cW HBW0.out.size (by rw [HW0.out]; exact HBg.out)
 have HS7 : Hid _ := hS7
 have HY7 : Hid _ := hY7
 have HCW : Hid _ := cW
 have HBW : Hid _ := bW
 have z7 : base ≤ w7.heap.size := by have := bW.size; have := HW0.out; omega
 have HZ7 : Hid _ := z7
 clear hw cw hS7 hY7 cW bW z7 r7 r3 hw7 c1 f1
 refine (smixhash_any base g _ _ Y (by have := HLh.out; have := HLY.out; show h.length + Y.length ≤ _; omega) _ HZ7.out HS7.out HY7.out (HT.out.kept HBW.out)).mono ?_
 rintro e w8 ⟨rfl, hS8, c8⟩
 have HS8 : Hid _ := hS8
 have HC8 : Hid _ := c8
 clear hS8 c8
 go_wp2_with fail
 go_end0
 refine ⟨rfl, ?_, HCW.out.trans HC8.out⟩
 rw [HM.out]
 exact HS8.out
theorem seS_ways (s : Sta) (t : List UInt8) : ((seC s.c s.h t).2.2 = 0 ∧ seS s t = (⟨s.ck, s2L (s.h ++ (seC s.c s.h t).2.1), (seC s.c s.h t).1⟩, (seC s.c s.h t).2.1, 0)) ∨ ((seC s.c s.h t).2.2 ≠ 0 ∧ seS s t = (s, [], (seC s.c s.h t).2.2)) := by
 unfold seS
 by_cases h : (seC s.c s.h t).2.2 = 0
 ·exact .inl ⟨h, if_pos h⟩
 ·exact .inr ⟨h, if_neg h⟩
theorem opS_ways (s : Sta) (t : List UInt8) : ((opC s.c s.h t).2.2 = 0 ∧ opS s t = (⟨s.ck, s2L (s.h ++ t), (opC s.c s.h t).1⟩, (opC s.c s.h t).2.1, 0)) ∨ ((opC s.c s.h t).2.2 ≠ 0 ∧ opS s t = (s, [], (opC s.c s.h t).2.2)) := by
 unfold opS
 by_cases h : (opC s.c s.h t).2.2 = 0
 ·exact .inl ⟨h, if_pos h⟩
 ·exact .inr ⟨h, if_neg h⟩
theorem seC_err (c : Cph) (a t : List UInt8) (h : (seC c a t).2.2 ≠ 0) : (seC c a t).1 = c := by
 unfold seC at h ⊢
 split <;> try rfl
 split <;> try rfl
 split <;> try rfl
 next h1 h2 h3 => rw [if_neg h1, if_neg h2, if_neg h3] at h; exact absurd rfl h
theorem opC_err (c : Cph) (a t : List UInt8) (h : (opC c a t).2.2 ≠ 0) : (opC c a t).1 = c := by
 unfold opC at h ⊢
 split <;> try rfl
 split <;> try rfl
 split <;> try rfl
 split <;> try rfl
 next h1 h2 h3 h4 => rw [if_neg h1, if_neg h2, if_neg h3, if_pos h4] at h; exact absurd rfl h

set_option maxRecDepth 100000 in
set_option maxHeartbeats 4000000 in
theorem sseal_any (base g : Nat) (s : Sta) (hn : s.c.n < 18446744073709551616) (vt : Value) (t : List UInt8) (hlt : t.length ≤ 100000) (hlh : s.h.length ≤ 100000) (w : World) (hbg : base ≤ g) (hS : StP base g s w) (ht : Rd w vt t) (w0 : World) (hw0 : w0.heap.size = base) (hbw0 : Below w0.heap.size w0 w) (hTb : Tabs w0) (hP : PlT w0) (hT : KpT w0) :
  Calls Tryz.prog 14 #[.pointer (some ⟨g, 0, none⟩), vt] w fun e w' => ∃ x, e = .returned (.tuple #[x, .int .i64 (seS s t).2.2]) ∧ Ow 5 w.heap.size x (seS s t).2.1 w' ∧ StP base g (seS s t).1 w' ∧ Chg (fun i => i = g) w w' := by
 have hways := seS_ways s t
 have herr := seC_err s.c s.h t
 have hfac := seC_facts s.c s.h t hn
 have hS0 := hS
 obtain ⟨ck, h, ⟨key, n⟩⟩ := s
 obtain ⟨vc, vh, vk, hB, hc, hh, hk⟩ := hS
 replace hB : BlkAt g 44 (stD vc vh vk n) w := hB
 replace hc : Ow 5 base vc ck w := hc
 replace hh : Ow 5 base vh h w := hh
 replace hk : Ow 5 base vk key w := hk
 obtain ⟨ac, cc, rfl, -⟩ := id hc.rd
 obtain ⟨ah, ch, rfl, -⟩ := id hh.rd
 obtain ⟨ak, ck', rfl, -⟩ := id hk.rd
 have c1 : w.cell? ⟨g, 1, none⟩ = some (.slice ah h.length ch) := hB.cell 1
 have z0 : base ≤ w.heap.size := by have := hbw0.size; omega
 replace hways : ((seC ⟨key, n⟩ h t).2.2 = 0 ∧ seS ⟨ck, h, ⟨key, n⟩⟩ t = (⟨ck, s2L (h ++ (seC ⟨key, n⟩ h t).2.1), (seC ⟨key, n⟩ h t).1⟩, (seC ⟨key, n⟩ h t).2.1, 0)) ∨ ((seC ⟨key, n⟩ h t).2.2 ≠ 0 ∧ seS ⟨ck, h, ⟨key, n⟩⟩ t = (⟨ck, h, ⟨key, n⟩⟩, [], (seC ⟨key, n⟩ h t).2.2)) := hways
 replace herr : (seC ⟨key, n⟩ h t).2.2 ≠ 0 → (seC ⟨key, n⟩ h t).1 = ⟨key, n⟩ := herr
 replace hfac : (seC ⟨key, n⟩ h t).1.key = key ∧ (seC ⟨key, n⟩ h t).1.n < 18446744073709551616 ∧ (seC ⟨key, n⟩ h t).2.1.length ≤ t.length + 16 := hfac
 have HCall : Hid _ := fun W (bW : Below w.heap.size w W) => cseal_any ⟨key, n⟩ hn h t (by have : h.length ≤ 100000 := hlh; omega) (by omega) g 2 44 ne_state [.slice ac ck.length cc, .slice ah h.length ch] [] rfl ak ck' (.slice ah h.length ch) vt W (BlkAt.kept hB bW) (hk.kept bW).rd (hh.kept bW).rd (ht.kept bW) (hP.kept (stepB hbw0 bW)) (hT.kept (stepB hbw0 bW))
 generalize seS ⟨ck, h, ⟨key, n⟩⟩ t = S at hways ⊢
 generalize seC ⟨key, n⟩ h t = Q at hways herr hfac HCall
 obtain ⟨⟨kq, m⟩, X, E⟩ := Q
 obtain ⟨hkq, hm, hX⟩ := hfac
 replace hkq : kq = key := hkq
 subst hkq
 have HW : Hid ((E = 0 ∧ S = (⟨ck, s2L (h ++ X), ⟨kq, m⟩⟩, X, 0)) ∨ (E ≠ 0 ∧ S = (⟨ck, h, ⟨kq, n⟩⟩, [], E))) := hways
 have HE : Hid (E ≠ 0 → (⟨kq, m⟩ : Cph) = ⟨kq, n⟩) := herr
 have HX : Hid (X.length ≤ t.length + 16) := hX
 have HB : Hid (BlkAt g 44 _ w) := hB
 have HC : Hid (Ow 5 base _ ck w) := hc
 have HH : Hid (Ow 5 base _ h w) := hh
 have HK : Hid (Ow 5 base _ kq w) := hk
 have HLh : Hid (h.length ≤ 100000) := hlh
 have HLt : Hid (t.length ≤ 100000) := hlt
 have HTt : Hid (Rd w vt t) := ht
 have HTb : Hid (Tabs w0) := hTb
 have HBg : Hid _ := hbg
 have HW0 : Hid _ := hw0
 have HBW0 : Hid (Below w0.heap.size w0 w) := hbw0
 have HZ0 : Hid _ := z0
 clear hB hc hh hk hlh hlt ht hTb hP hT hbg hw0 hbw0 hn hways herr hX hm hS0 z0
 go_enter Tryz.func14, Tryz.ntmps14
 go_wp2_with fail
 have hB : Below w.heap.size w w.drew := (Below.refl _ _).drew
 refine wpF_begin 8 (w0 := w) (by kernel_rfl) ?_
 refine wpF_p (hb := .inr hB) (i := 0) (oi := ⟨some 11, .move (.tmp 0), 24, "sym.go:67", #[], none⟩) (v := ?_) ?_ ?_
 rotate_left
 ·intro W; go_simp <;> with_reducible rfl
 try simp only [Act.put, putA, putB, putC]
 refine wpF_p (hb := .inr hB) (i := 1) (oi := ⟨some 12, .nilCheck (.tmp 11), 0, "sym.go:67", #[⟨0, .data⟩], none⟩) (v := ?_) ?_ ?_
 rotate_left
 ·intro W; go_simp <;> with_reducible rfl
 try simp only [Act.put, putA, putB, putC]
 refine wpF_p (hb := .inr hB) (i := 2) (oi := ⟨some 13, .fieldAddr 44 (.tmp 12) 2, 0, "sym.go:67", #[⟨1, .data⟩], none⟩) (v := ?_) ?_ ?_
 rotate_left
 ·intro W; go_simp <;> with_reducible rfl
 try simp only [Act.put, putA, putB, putC]
 refine wpF_p (hb := .inr hB) (i := 3) (oi := ⟨some 14, .move (.tmp 0), 24, "sym.go:67", #[], none⟩) (v := ?_) ?_ ?_
 rotate_left
 ·intro W; go_simp <;> with_reducible rfl
 try simp only [Act.put, putA, putB, putC]
 refine wpF_p (hb := .inr hB) (i := 4) (oi := ⟨some 15, .nilCheck (.tmp 14), 0, "sym.go:67", #[⟨3, .data⟩], none⟩) (v := ?_) ?_ ?_
 rotate_left
 ·intro W; go_simp <;> with_reducible rfl
 try simp only [Act.put, putA, putB, putC]
 refine wpF_p (hb := .inr hB) (i := 5) (oi := ⟨some 16, .fieldAddr 44 (.tmp 15) 1, 0, "sym.go:67", #[⟨4, .data⟩], none⟩) (v := ?_) ?_ ?_
 rotate_left
 ·intro W; go_simp <;> with_reducible rfl
 try simp only [Act.put, putA, putB, putC]
 refine wpF_t (hb := hB) (i := 6) (oi := ⟨some 17, .load 26 (.tmp 16), 26, "sym.go:67", #[⟨5, .data⟩], none⟩) (v := ?_) ?_ ?_
 rotate_left
 ·intro W hW; have hcW := cellT c1 hW; go_simp <;> with_reducible rfl
 try simp only [Act.put, putA, putB, putC]
 refine wpF_p (hb := .inr hB) (i := 7) (oi := ⟨some 18, .move (.tmp 1), 26, "sym.go:67", #[], none⟩) (v := ?_) ?_ ?_
 rotate_left
 ·intro W; go_simp <;> with_reducible rfl
 try simp only [Act.put, putA, putB, putC]
 refine wpF_do (i := 8) (o := ⟨some 19, .call { callee := .value (.func 31), args := #[.tmp 13, .tmp 17, .tmp 18], argTypes := #[42, 26, 26] }, 38, "sym.go:67", #[⟨2, .data⟩, ⟨6, .data⟩, ⟨7, .data⟩], none⟩) (by kernel_rfl) rfl (by rfl) fun K hK => ?_
 go_simp
 refine Calls.mono (HCall.out _ hB) ?_
 rintro e w1 ⟨x, rfl, hO, hCg, hB1⟩
 have HO : Hid (Ow 5 _ x X w1) := hO
 have HCg : Hid _ := hCg
 have HB1 : Hid _ := hB1
 clear hO hCg hB1
 refine hK.out _ _ (.inl rfl) ?_
 clear hK K
 try simp only [Act.put, putA, putB, putC]
 refine wpF_p (hb := .inl (by kernel_rfl)) (i := 9) (oi := ⟨some 10, .move (.tmp 19), 38, "sym.go:67", #[⟨8, .data⟩], none⟩) (v := ?_) ?_ ?_
 rotate_left
 ·intro W; go_simp <;> with_reducible rfl
 try simp only [Act.put, putA, putB, putC]
 refine wpF_p (hb := .inl (by kernel_rfl)) (i := 10) (oi := ⟨some 20, .extract (.tmp 10) 0, 26, "sym.go:67", #[⟨9, .data⟩], none⟩) (v := ?_) ?_ ?_
 rotate_left
 ·intro W; go_simp <;> with_reducible rfl
 try simp only [Act.put, putA, putB, putC]
 refine wpF_p (hb := .inl (by kernel_rfl)) (i := 11) (oi := ⟨some 21, .extract (.tmp 10) 1, 35, "sym.go:67", #[⟨9, .data⟩, ⟨12, .gcOnly .lateStores⟩], none⟩) (v := ?_) ?_ ?_
 rotate_left
 ·intro W; go_simp <;> with_reducible rfl
 try simp only [Act.put, putA, putB, putC]
 refine wpF_p (hb := .inl (by kernel_rfl)) (i := 12) (oi := ⟨some 6, .assign (.tmp 20), 26, "sym.go:67", #[⟨10, .data⟩, ⟨8, .chain⟩, ⟨0, .phase⟩, ⟨1, .phase⟩, ⟨2, .phase⟩, ⟨3, .phase⟩, ⟨4, .phase⟩, ⟨5, .phase⟩, ⟨6, .phase⟩, ⟨7, .phase⟩, ⟨8, .phase⟩, ⟨9, .phase⟩, ⟨10, .phase⟩, ⟨11, .textOnly .lateStores⟩], none⟩) (v := ?_) ?_ ?_
 rotate_left
 ·intro W; go_simp <;> with_reducible rfl
 try simp only [Act.put, putA, putB, putC]
 refine wpF_p (hb := .inl (by kernel_rfl)) (i := 13) (oi := ⟨some 7, .assign (.tmp 21), 35, "sym.go:67", #[⟨11, .data⟩, ⟨12, .chain⟩, ⟨0, .phase⟩, ⟨1, .phase⟩, ⟨2, .phase⟩, ⟨3, .phase⟩, ⟨4, .phase⟩, ⟨5, .phase⟩, ⟨6, .phase⟩, ⟨7, .phase⟩, ⟨8, .phase⟩, ⟨9, .phase⟩, ⟨10, .phase⟩, ⟨11, .phase⟩, ⟨12, .phase⟩], none⟩) (v := ?_) ?_ ?_
 rotate_left
 ·intro W; go_simp <;> with_reducible rfl
 try simp only [Act.put, putA, putB, putC]
 refine wpF_done (by kernel_rfl) ?_
 have cW : Chg (fun i => i = g) w w1 := (Chg.of_below hB).trans HCg.out
 have hB0 := HB.out.kept hB
 have hOx : Ow 5 w.heap.size x X w1 := HO.out.mono hB.size
 have b1 : Below w0.heap.size w0 w1 := Chg.gone HBW0.out cW HBW0.out.size (by rw [HW0.out]; exact HBg.out)
 have hS1 : StP base g ⟨ck, h, ⟨kq, m⟩⟩ w1 := ⟨_, _, _, HB1.out, (HC.out).chg HB.out ne_state cW, (HH.out).chg HB.out ne_state cW, (HK.out).chg HB.out ne_state cW⟩
 have ht1 : Rd w1 vt t := HTt.out.past16 HB.out (stD_no8 _ _ _ _ _ _ _ _ _ _) cW
 obtain ⟨ax, cx, rfl, -⟩ := id hOx.rd
 have HOx : Hid (Ow 5 w.heap.size _ X w1) := hOx
 have HS1 : Hid (StP base g ⟨ck, h, ⟨kq, m⟩⟩ w1) := hS1
 have HT1 : Hid (Rd w1 vt t) := ht1
 have HCW : Hid _ := cW
 have HB01 : Hid _ := b1
 have z1 : base ≤ w1.heap.size := by have := b1.size; have := HW0.out; omega
 have HZ1 : Hid _ := z1
 clear cW hB0 hOx b1 hS1 ht1 HO HCg HB1 HB HC HH HK c1 z1 HCall hB
 rcases HW.out with ⟨hE, hSe⟩ | ⟨hE, hSe⟩
 ·have e6 : (E != 0) = false := by rw [hE]; rfl
  have HSe : Hid _ := hSe
  clear hE hSe HW HE
  go_wp2_with fail
  refine (smixhash_any base g ⟨ck, h, ⟨kq, m⟩⟩ _ X (by have := HLh.out; have := HLt.out; have := HX.out; show h.length + (X).length ≤ _; omega) _ HZ1.out HS1.out HOx.out.rd (HTb.out.kept HB01.out)).mono ?_
  rintro e w2 ⟨rfl, hS2, c2⟩
  have HS2 : Hid (StP base g _ w2) := hS2
  have HC2 : Hid _ := c2
  have HO2 : Hid _ := StP.own HOx.out HS1.out c2
  clear hS2 c2
  go_wp2_with fail
  go_ret2
  rw [HSe.out]
  exact ⟨_, rfl, HO2.out, HS2.out, HCW.out.trans HC2.out⟩
 ·have e6 : (E != 0) = true := by simpa using hE
  have HSe : Hid _ := hSe
  have HEq : Hid ((⟨kq, m⟩ : Cph) = ⟨kq, n⟩) := HE.out hE
  clear hE hSe HW HE
  go_wp2_with fail
  go_ret2
  rw [HSe.out]
  refine ⟨_, rfl, Ow.nil _ _ _, ?_, HCW.out⟩
  have hS2 := HS1.out
  rw [HEq.out] at hS2
  exact hS2

set_option maxRecDepth 100000 in
set_option maxHeartbeats 4000000 in
theorem sopen_any (base g : Nat) (s : Sta) (hn : s.c.n < 18446744073709551616) (vt : Value) (t : List UInt8) (hlt : t.length ≤ 100000) (hlh : s.h.length ≤ 100000) (w : World) (hbg : base ≤ g) (hS : StP base g s w) (ht : Rd w vt t) (w0 : World) (hw0 : w0.heap.size = base) (hbw0 : Below w0.heap.size w0 w) (hTb : Tabs w0) (hP : PlT w0) (hT : KpT w0) :
  Calls Tryz.prog 16 #[.pointer (some ⟨g, 0, none⟩), vt] w fun e w' => ∃ x, e = .returned (.tuple #[x, .int .i64 (opS s t).2.2]) ∧ Ow 5 w.heap.size x (opS s t).2.1 w' ∧ StP base g (opS s t).1 w' ∧ Chg (fun i => i = g) w w' := by
 have hways := opS_ways s t
 have herr := opC_err s.c s.h t
 have hfac := opC_facts s.c s.h t hn
 have hS0 := hS
 obtain ⟨ck, h, ⟨key, n⟩⟩ := s
 obtain ⟨vc, vh, vk, hB, hc, hh, hk⟩ := hS
 replace hB : BlkAt g 44 (stD vc vh vk n) w := hB
 replace hc : Ow 5 base vc ck w := hc
 replace hh : Ow 5 base vh h w := hh
 replace hk : Ow 5 base vk key w := hk
 obtain ⟨ac, cc, rfl, -⟩ := id hc.rd
 obtain ⟨ah, ch, rfl, -⟩ := id hh.rd
 obtain ⟨ak, ck', rfl, -⟩ := id hk.rd
 have c1 : w.cell? ⟨g, 1, none⟩ = some (.slice ah h.length ch) := hB.cell 1
 have z0 : base ≤ w.heap.size := by have := hbw0.size; omega
 replace hways : ((opC ⟨key, n⟩ h t).2.2 = 0 ∧ opS ⟨ck, h, ⟨key, n⟩⟩ t = (⟨ck, s2L (h ++ t), (opC ⟨key, n⟩ h t).1⟩, (opC ⟨key, n⟩ h t).2.1, 0)) ∨ ((opC ⟨key, n⟩ h t).2.2 ≠ 0 ∧ opS ⟨ck, h, ⟨key, n⟩⟩ t = (⟨ck, h, ⟨key, n⟩⟩, [], (opC ⟨key, n⟩ h t).2.2)) := hways
 replace herr : (opC ⟨key, n⟩ h t).2.2 ≠ 0 → (opC ⟨key, n⟩ h t).1 = ⟨key, n⟩ := herr
 replace hfac : (opC ⟨key, n⟩ h t).1.key = key ∧ (opC ⟨key, n⟩ h t).1.n < 18446744073709551616 ∧ (opC ⟨key, n⟩ h t).2.1.length ≤ t.length := hfac
 have HCall : Hid _ := fun W (bW : Below w.heap.size w W) => copen_any ⟨key, n⟩ hn h t (by have : h.length ≤ 100000 := hlh; omega) (by omega) g 2 44 ne_state [.slice ac ck.length cc, .slice ah h.length ch] [] rfl ak ck' (.slice ah h.length ch) vt W (BlkAt.kept hB bW) (hk.kept bW).rd (hh.kept bW).rd (ht.kept bW) (hP.kept (stepB hbw0 bW)) (hT.kept (stepB hbw0 bW))
 generalize opS ⟨ck, h, ⟨key, n⟩⟩ t = S at hways ⊢
 generalize opC ⟨key, n⟩ h t = Q at hways herr hfac HCall
 obtain ⟨⟨kq, m⟩, X, E⟩ := Q
 obtain ⟨hkq, hm, hX⟩ := hfac
 replace hkq : kq = key := hkq
 subst hkq
 have HW : Hid ((E = 0 ∧ S = (⟨ck, s2L (h ++ t), ⟨kq, m⟩⟩, X, 0)) ∨ (E ≠ 0 ∧ S = (⟨ck, h, ⟨kq, n⟩⟩, [], E))) := hways
 have HE : Hid (E ≠ 0 → (⟨kq, m⟩ : Cph) = ⟨kq, n⟩) := herr
 have HX : Hid (X.length ≤ t.length) := hX
 have HB : Hid (BlkAt g 44 _ w) := hB
 have HC : Hid (Ow 5 base _ ck w) := hc
 have HH : Hid (Ow 5 base _ h w) := hh
 have HK : Hid (Ow 5 base _ kq w) := hk
 have HLh : Hid (h.length ≤ 100000) := hlh
 have HLt : Hid (t.length ≤ 100000) := hlt
 have HTt : Hid (Rd w vt t) := ht
 have HTb : Hid (Tabs w0) := hTb
 have HBg : Hid _ := hbg
 have HW0 : Hid _ := hw0
 have HBW0 : Hid (Below w0.heap.size w0 w) := hbw0
 have HZ0 : Hid _ := z0
 clear hB hc hh hk hlh hlt ht hTb hP hT hbg hw0 hbw0 hn hways herr hX hm hS0 z0
 go_enter Tryz.func16, Tryz.ntmps16
 go_wp2_with fail
 have hB : Below w.heap.size w w.drew := (Below.refl _ _).drew
 refine wpF_begin 8 (w0 := w) (by kernel_rfl) ?_
 refine wpF_p (hb := .inr hB) (i := 0) (oi := ⟨some 11, .move (.tmp 0), 24, "sym.go:80", #[], none⟩) (v := ?_) ?_ ?_
 rotate_left
 ·intro W; go_simp <;> with_reducible rfl
 try simp only [Act.put, putA, putB, putC]
 refine wpF_p (hb := .inr hB) (i := 1) (oi := ⟨some 12, .nilCheck (.tmp 11), 0, "sym.go:80", #[⟨0, .data⟩], none⟩) (v := ?_) ?_ ?_
 rotate_left
 ·intro W; go_simp <;> with_reducible rfl
 try simp only [Act.put, putA, putB, putC]
 refine wpF_p (hb := .inr hB) (i := 2) (oi := ⟨some 13, .fieldAddr 44 (.tmp 12) 2, 0, "sym.go:80", #[⟨1, .data⟩], none⟩) (v := ?_) ?_ ?_
 rotate_left
 ·intro W; go_simp <;> with_reducible rfl
 try simp only [Act.put, putA, putB, putC]
 refine wpF_p (hb := .inr hB) (i := 3) (oi := ⟨some 14, .move (.tmp 0), 24, "sym.go:80", #[], none⟩) (v := ?_) ?_ ?_
 rotate_left
 ·intro W; go_simp <;> with_reducible rfl
 try simp only [Act.put, putA, putB, putC]
 refine wpF_p (hb := .inr hB) (i := 4) (oi := ⟨some 15, .nilCheck (.tmp 14), 0, "sym.go:80", #[⟨3, .data⟩], none⟩) (v := ?_) ?_ ?_
 rotate_left
 ·intro W; go_simp <;> with_reducible rfl
 try simp only [Act.put, putA, putB, putC]
 refine wpF_p (hb := .inr hB) (i := 5) (oi := ⟨some 16, .fieldAddr 44 (.tmp 15) 1, 0, "sym.go:80", #[⟨4, .data⟩], none⟩) (v := ?_) ?_ ?_
 rotate_left
 ·intro W; go_simp <;> with_reducible rfl
 try simp only [Act.put, putA, putB, putC]
 refine wpF_t (hb := hB) (i := 6) (oi := ⟨some 17, .load 26 (.tmp 16), 26, "sym.go:80", #[⟨5, .data⟩], none⟩) (v := ?_) ?_ ?_
 rotate_left
 ·intro W hW; have hcW := cellT c1 hW; go_simp <;> with_reducible rfl
 try simp only [Act.put, putA, putB, putC]
 refine wpF_p (hb := .inr hB) (i := 7) (oi := ⟨some 18, .move (.tmp 1), 26, "sym.go:80", #[], none⟩) (v := ?_) ?_ ?_
 rotate_left
 ·intro W; go_simp <;> with_reducible rfl
 try simp only [Act.put, putA, putB, putC]
 refine wpF_do (i := 8) (o := ⟨some 19, .call { callee := .value (.func 33), args := #[.tmp 13, .tmp 17, .tmp 18], argTypes := #[42, 26, 26] }, 38, "sym.go:80", #[⟨2, .data⟩, ⟨6, .data⟩, ⟨7, .data⟩], none⟩) (by kernel_rfl) rfl (by rfl) fun K hK => ?_
 go_simp
 refine Calls.mono (HCall.out _ hB) ?_
 rintro e w1 ⟨x, rfl, hO, hCg, hB1⟩
 have HO : Hid (Ow 5 _ x X w1) := hO
 have HCg : Hid _ := hCg
 have HB1 : Hid _ := hB1
 clear hO hCg hB1
 refine hK.out _ _ (.inl rfl) ?_
 clear hK K
 try simp only [Act.put, putA, putB, putC]
 refine wpF_p (hb := .inl (by kernel_rfl)) (i := 9) (oi := ⟨some 10, .move (.tmp 19), 38, "sym.go:80", #[⟨8, .data⟩], none⟩) (v := ?_) ?_ ?_
 rotate_left
 ·intro W; go_simp <;> with_reducible rfl
 try simp only [Act.put, putA, putB, putC]
 refine wpF_p (hb := .inl (by kernel_rfl)) (i := 10) (oi := ⟨some 20, .extract (.tmp 10) 0, 26, "sym.go:80", #[⟨9, .data⟩], none⟩) (v := ?_) ?_ ?_
 rotate_left
 ·intro W; go_simp <;> with_reducible rfl
 try simp only [Act.put, putA, putB, putC]
 refine wpF_p (hb := .inl (by kernel_rfl)) (i := 11) (oi := ⟨some 21, .extract (.tmp 10) 1, 35, "sym.go:80", #[⟨9, .data⟩, ⟨12, .gcOnly .lateStores⟩], none⟩) (v := ?_) ?_ ?_
 rotate_left
 ·intro W; go_simp <;> with_reducible rfl
 try simp only [Act.put, putA, putB, putC]
 refine wpF_p (hb := .inl (by kernel_rfl)) (i := 12) (oi := ⟨some 6, .assign (.tmp 20), 26, "sym.go:80", #[⟨10, .data⟩, ⟨8, .chain⟩, ⟨0, .phase⟩, ⟨1, .phase⟩, ⟨2, .phase⟩, ⟨3, .phase⟩, ⟨4, .phase⟩, ⟨5, .phase⟩, ⟨6, .phase⟩, ⟨7, .phase⟩, ⟨8, .phase⟩, ⟨9, .phase⟩, ⟨10, .phase⟩, ⟨11, .textOnly .lateStores⟩], none⟩) (v := ?_) ?_ ?_
 rotate_left
 ·intro W; go_simp <;> with_reducible rfl
 try simp only [Act.put, putA, putB, putC]
 refine wpF_p (hb := .inl (by kernel_rfl)) (i := 13) (oi := ⟨some 7, .assign (.tmp 21), 35, "sym.go:80", #[⟨11, .data⟩, ⟨12, .chain⟩, ⟨0, .phase⟩, ⟨1, .phase⟩, ⟨2, .phase⟩, ⟨3, .phase⟩, ⟨4, .phase⟩, ⟨5, .phase⟩, ⟨6, .phase⟩, ⟨7, .phase⟩, ⟨8, .phase⟩, ⟨9, .phase⟩, ⟨10, .phase⟩, ⟨11, .phase⟩, ⟨12, .phase⟩], none⟩) (v := ?_) ?_ ?_
 rotate_left
 ·intro W; go_simp <;> with_reducible rfl
 try simp only [Act.put, putA, putB, putC]
 refine wpF_done (by kernel_rfl) ?_
 have cW : Chg (fun i => i = g) w w1 := (Chg.of_below hB).trans HCg.out
 have hB0 := HB.out.kept hB
 have hOx : Ow 5 w.heap.size x X w1 := HO.out.mono hB.size
 have b1 : Below w0.heap.size w0 w1 := Chg.gone HBW0.out cW HBW0.out.size (by rw [HW0.out]; exact HBg.out)
 have hS1 : StP base g ⟨ck, h, ⟨kq, m⟩⟩ w1 := ⟨_, _, _, HB1.out, (HC.out).chg HB.out ne_state cW, (HH.out).chg HB.out ne_state cW, (HK.out).chg HB.out ne_state cW⟩
 have ht1 : Rd w1 vt t := HTt.out.past16 HB.out (stD_no8 _ _ _ _ _ _ _ _ _ _) cW
 obtain ⟨ax, cx, rfl, -⟩ := id hOx.rd
 have HOx : Hid (Ow 5 w.heap.size _ X w1) := hOx
 have HS1 : Hid (StP base g ⟨ck, h, ⟨kq, m⟩⟩ w1) := hS1
 have HT1 : Hid (Rd w1 vt t) := ht1
 have HCW : Hid _ := cW
 have HB01 : Hid _ := b1
 have z1 : base ≤ w1.heap.size := by have := b1.size; have := HW0.out; omega
 have HZ1 : Hid _ := z1
 clear cW hB0 hOx b1 hS1 ht1 HO HCg HB1 HB HC HH HK c1 z1 HCall hB
 rcases HW.out with ⟨hE, hSe⟩ | ⟨hE, hSe⟩
 ·have e6 : (E != 0) = false := by rw [hE]; rfl
  have HSe : Hid _ := hSe
  clear hE hSe HW HE
  go_wp2_with fail
  refine (smixhash_any base g ⟨ck, h, ⟨kq, m⟩⟩ _ t (by have := HLh.out; have := HLt.out; have := HX.out; show h.length + (t).length ≤ _; omega) _ HZ1.out HS1.out HT1.out (HTb.out.kept HB01.out)).mono ?_
  rintro e w2 ⟨rfl, hS2, c2⟩
  have HS2 : Hid (StP base g _ w2) := hS2
  have HC2 : Hid _ := c2
  have HO2 : Hid _ := StP.own HOx.out HS1.out c2
  clear hS2 c2
  go_wp2_with fail
  go_ret2
  rw [HSe.out]
  exact ⟨_, rfl, HO2.out, HS2.out, HCW.out.trans HC2.out⟩
 ·have e6 : (E != 0) = true := by simpa using hE
  have HSe : Hid _ := hSe
  have HEq : Hid ((⟨kq, m⟩ : Cph) = ⟨kq, n⟩) := HE.out hE
  clear hE hSe HW HE
  go_wp2_with fail
  go_ret2
  rw [HSe.out]
  refine ⟨_, rfl, Ow.nil _ _ _, ?_, HCW.out⟩
  have hS2 := HS1.out
  rw [HEq.out] at hS2
  exact hS2
set_option maxRecDepth 100000 in
set_option maxHeartbeats 2000000 in
theorem sbegin_any (l : List UInt8) (hl : l.length ≤ 1000000) (w : World) (ht : Tabs w) : Calls Tryz.prog 23 #[.string ⟨l.toArray⟩] w fun e w' => ∃ v, e = .returned v ∧ New 5 w v (nwH l) w' := by
 have hsz : (⟨l.toArray⟩ : ByteArray).size = l.length := by simp [ByteArray.size]
 have HT : Hid (Tabs w) := ht
 have HL : Hid (l.length ≤ 1000000) := hl
 have hl2 : (l.length : Int) < 9223372036854775808 := by omega
 by_cases h : 32 < l.length
 ·have hd : decide ((32 : Int) < ((⟨l.toArray⟩ : ByteArray).size : Int)) = true := decide_eq_true (by rw [hsz]; omega)
  have hd2 : decide ((32 : Int) < (l.length : Int)) = true := decide_eq_true (by omega)
  have HH : Hid (nwH l = s2L l) := (if_pos h : nwH l = s2L l)
  clear h ht hl
  go_enter Tryz.func23, Tryz.ntmps23
  go_wp2_with (refine wpList_conv_text rfl _ 9 26 5 rfl Tryz.underlying9 Tryz.underlying26 Tryz.underlying5 l rfl (by have := HL.out; unfold maxLen; omega) ?_)
  intro v1 w1 h1 b1
  have H1 : Hid (Rd w1 v1 l) := h1
  clear h1
  go_wp2_with fail
  refine (sum256_any _ l _ H1.out (HT.out.kept b1)).mono ?_
  rintro e w2 ⟨v2, rfl, hN2⟩
  have HN : Hid (New 5 w v2 (s2L l) w2) := New.from hN2 b1
  clear hN2 b1 H1
  go_wp2_with fail
  go_ret
  refine ⟨_, rfl, ?_⟩
  rw [HH.out]
  exact HN.out
 ·have hd : decide ((32 : Int) < ((⟨l.toArray⟩ : ByteArray).size : Int)) = false := decide_eq_false (by rw [hsz]; omega)
  have hd2 : decide ((32 : Int) < (l.length : Int)) = false := decide_eq_false (by omega)
  have HH : Hid (nwH l = l ++ (List.replicate 32 (0 : UInt8)).drop l.length) := (by
   show nwH l = _
   unfold nwH
   rw [if_neg h, List.drop_replicate] : nwH l = l ++ (List.replicate 32 (0 : UInt8)).drop l.length)
  have HLe : Hid (l.length ≤ (List.replicate 32 (0 : UInt8)).length) := (by rw [List.length_replicate]; omega : l.length ≤ (List.replicate 32 (0 : UInt8)).length)
  clear h ht hl
  go_enter Tryz.func23, Tryz.ntmps23
  go_wp2_with (refine wpList_make_own rfl _ _ 26 rfl Tryz.underlying26 infoU8 32 rfl rfl (by decide) ?_)
  intro w1 hN1
  have HN1 : Hid (New 5 w _ _ w1) := hN1
  clear hN1
  go_wp2_with (refine wpList_copy_text rfl _ _ 26 9 rfl 5 Tryz.underlying26 (by kernel_rfl) _ _ rfl HN1.out l rfl HLe.out (by decide) ?_)
  intro w2 hN2
  have HN : Hid (New 5 w _ _ w2) := hN2
  clear hN2
  go_wp2_with fail
  go_ret
  refine ⟨_, rfl, ?_⟩
  rw [HH.out]
  exact HN.out

theorem build_st2 (a1 a2 : Option Addr) (l1 c1 l2 c2 : Nat) (w : World) : (Instr.build 44 #[(0, .slice a1 l1 c1), (1, .slice a2 l2 c2)]).run Tryz.prog w = .ok (.agg (stD (.slice a1 l1 c1) (.slice a2 l2 c2) (.slice none 0 0) 0).toArray) w := by kernel_rfl

set_option maxRecDepth 100000 in
set_option maxHeartbeats 2000000 in
theorem snew_any (l : List UInt8) (hl : l.length ≤ 1000000) (w : World) (ht : Tabs w) : Calls Tryz.prog 6 #[.string ⟨l.toArray⟩] w fun e w' => ∃ g, e = .returned (.pointer (some ⟨g, 0, none⟩)) ∧ w.heap.size ≤ g ∧ StP w.heap.size g (nwS l) w' ∧ Below w.heap.size w w' := by
 have HT : Hid (Tabs w) := ht
 have HL : Hid (l.length ≤ 1000000) := hl
 have HM : Hid (nwS l = ⟨nwH l, nwH l, ⟨[], 0⟩⟩) := rfl
 generalize nwS l = M at HM ⊢
 clear ht hl
 go_enter Tryz.func6, Tryz.ntmps6
 go_wp2_with fail
 refine (sbegin_any l HL.out _ HT.out).mono ?_
 rintro e w1 ⟨v1, rfl, hN1⟩
 have HN1 : Hid (New 5 w v1 (nwH l) w1) := hN1
 clear hN1
 go_wp2_with fail
 refine (sbegin_any l HL.out _ (HT.out.kept HN1.out.2)).mono ?_
 rintro e w2 ⟨v2, rfl, hN2⟩
 have hO1 : Ow 5 w.heap.size v1 (nwH l) w2 := (Ow.of_new HN1.out).kept hN2.2
 have hO2 : Ow 5 w.heap.size v2 (nwH l) w2 := Ow.mono (Ow.of_new hN2) HN1.out.2.size
 have b2 := stepB HN1.out.2 hN2.2
 generalize nwH l = X at HM hO1 hO2
 obtain ⟨a1, c1, rfl, -⟩ := id hO1.rd
 obtain ⟨a2, c2, rfl, -⟩ := id hO2.rd
 have HO1 : Hid (Ow 5 w.heap.size _ X w2) := hO1
 have HO2 : Hid (Ow 5 w.heap.size _ X w2) := hO2
 have HB2 : Hid _ := b2
 clear hN2 HN1 hO1 hO2 b2
 go_wp2_with (first | refine wpList_buildB rfl 44 #[(0, .tmp 4), (1, .tmp 6)] rfl #[(0, .slice a1 X.length c1), (1, .slice a2 X.length c2)] (by go_simp) (.agg (stD (.slice a1 X.length c1) (.slice a2 X.length c2) (.slice none 0 0) 0).toArray) (build_st2 _ _ _ _ _ _ _) ?_ | (refine wpList_box_blk rfl 44 _ rfl (stD (.slice a1 X.length c1) (.slice a2 X.length c2) (.slice none 0 0) 0) rfl ?_; intro w3 r3 b3 s3))
 go_ret
 refine ⟨_, rfl, HB2.out.size, ?_, stepB HB2.out b3⟩
 rw [HM.out]
 exact ⟨_, _, _, r3, HO1.out.kept b3, HO2.out.kept b3, Ow.nil _ _ _⟩

theorem bodyPost_two {P : Program} {fn : Func} {p q : Tmp} {ty bt bu : TypeId} {g k : Nat} {cs ds : List Value} {d : TypeDesc} {R : Ending → World → Prop} {a : Act} {w : World} (h : fn.results = #[.cell p ty, .cell q ty]) (hd : a.defers = [])
  (hp : a.tmps.getD p undef = .pointer (some ⟨g, 0, none⟩)) (hq : a.tmps.getD q undef = .pointer (some ⟨k, 0, none⟩)) (hb : BlkAt g bt cs w) (hc : BlkAt k bu ds w) (hu : P.underlying ty = some d) (hrow : d.isRow = true) (hi : (P.info? ty).map (·.size) = some cs.length) (hj : (P.info? ty).map (·.size) = some ds.length)
  (hR : R (.returned (.tuple #[.agg cs.toArray, .agg ds.toArray])) w) : bodyPost P fn R .ret a w := by
 refine bodyPost_ret ?_ hd hR
 have hp' : a.tmps[p]?.getD undef = .pointer (some ⟨g, 0, none⟩) := by simpa using hp
 have hq' : a.tmps[q]?.getD undef = .pointer (some ⟨k, 0, none⟩) := by simpa using hq
 have hb' : BlkAt g bt (([] : List Value) ++ cs ++ []) w := by simpa using hb
 have hc' : BlkAt k bu (([] : List Value) ++ ds ++ []) w := by simpa using hc
 have hl := run_loadVar_mid (P := P) w g 0 ty cs d hb'.range hu hrow hi
 have hm := run_loadVar_mid (P := P) w k 0 ty ds d hc'.range hu hrow hj
 simp [results, h, hp', hq', asAddr, hl, hm]

set_option maxRecDepth 100000 in
set_option maxHeartbeats 2000000 in
theorem ssplit_any (base g : Nat) (s : Sta) (w : World) (hS : StP base g s w) (ht : Tabs w) :
  Calls Tryz.prog 19 #[.pointer (some ⟨g, 0, none⟩)] w fun e w' => ∃ x y, e = .returned (.tuple #[.agg (ckD x 0).toArray, .agg (ckD y 0).toArray]) ∧ Ow 5 w.heap.size x (spS s).1.key w' ∧ Ow 5 w.heap.size y (spS s).2.key w' ∧ Below w.heap.size w w' := by
 obtain ⟨ck, h, ⟨key, n⟩⟩ := s
 obtain ⟨vc, vh, vk, hB, hc, -, -⟩ := hS
 replace hB : BlkAt g 44 (stD vc vh vk n) w := hB
 replace hc : Ow 5 base vc ck w := hc
 obtain ⟨ac, cc, rfl, -⟩ := id hc.rd
 have HC : Hid (Ow 5 base _ ck w) := hc
 have HT : Hid (Tabs w) := ht
 have HS1 : Hid ((spS ⟨ck, h, ⟨key, n⟩⟩).1.key = k1F ck []) := rfl
 have HS2 : Hid ((spS ⟨ck, h, ⟨key, n⟩⟩).2.key = k2F ck []) := rfl
 generalize (spS ⟨ck, h, ⟨key, n⟩⟩).1.key = P1 at HS1 ⊢
 generalize (spS ⟨ck, h, ⟨key, n⟩⟩).2.key = P2 at HS2 ⊢
 clear hc ht
 go_enter Tryz.func19, Tryz.ntmps19
 go_wp2_with (refine wpList_alloc_blk rfl 42 rfl (ckD (.slice none 0 0) 0) (alloc_kc _) ?_)
 intro w1 rz b1 s1
 go_wp2_with (refine wpList_alloc_blk rfl 42 rfl (ckD (.slice none 0 0) 0) (alloc_kc _) ?_)
 intro w2 ry b2 s2
 replace rz := rz.kept b2
 have hbw := stepB b1 b2
 have n1 : w.heap.size < w1.heap.size := by have := s1.out; omega
 have c0 : w2.cell? ⟨g, 0, none⟩ = some (.slice ac ck.length cc) := (hB.kept hbw).cell 0
 have z1 := b1.size
 clear b1 b2 s1 s2 hB
 go_wp2_with fail
 refine (two_own _ _ ck [] (by decide) _ (HC.out.kept hbw).rd (Rd.nil _) (HT.out.kept hbw)).mono ?_
 rintro e w3 ⟨v1, v2, rfl, hO1, hO2, b3⟩
 rw [← HS1.out] at hO1
 rw [← HS2.out] at hO2
 replace hO1 := hO1.mono hbw.size
 replace hO2 := hO2.mono hbw.size
 obtain ⟨a1, d1, rfl, -⟩ := id hO1.rd
 obtain ⟨a2, d2, rfl, -⟩ := id hO2.rd
 replace ry := ry.kept b3
 replace rz := rz.kept b3
 have hb3 := stepB hbw b3
 have HO1 : Hid (Ow 5 w.heap.size _ P1 w3) := hO1
 have HO2 : Hid (Ow 5 w.heap.size _ P2 w3) := hO2
 clear c0 hbw b3 hO1 hO2
 go_wp2_with (first | refine wpList_buildB rfl 42 #[(0, .tmp 18)] rfl #[(0, .slice a1 P1.length d1)] (by go_simp) (.agg #[.slice a1 P1.length d1, .int .u64 0]) (build_kc _ _ _ _) ?_ | refine wpList_buildB rfl 42 #[(0, .tmp 20)] rfl #[(0, .slice a2 P2.length d2)] (by go_simp) (.agg #[.slice a2 P2.length d2, .int .u64 0]) (build_kc _ _ _ _) ?_ | (refine wpList_store_part rfl 42 _ _ rfl rfl (ckD (.slice a1 P1.length d1) 0) rfl [] (ckD (.slice none 0 0) 0) [] (ckD (.slice a1 P1.length d1) 0) rz (wholeS _) (wholeS _) rfl rfl (info_kc (.slice none 0 0) 0) (ckD_all _ _ _ _) ?_; intro w6 r6 hw6; have ry6 := ry.wrote hw6 (by omega)) | (refine wpList_store_part rfl 42 _ _ rfl rfl (ckD (.slice a2 P2.length d2) 0) rfl [] (ckD (.slice none 0 0) 0) [] (ckD (.slice a2 P2.length d2) 0) ry6 (wholeS _) (wholeS _) rfl rfl (info_kc (.slice none 0 0) 0) (ckD_all _ _ _ _) ?_; intro w7 r7 hw7))
 have r67 := r6.wrote hw7 (by omega)
 refine bodyPost_two rfl rfl rfl rfl r67 r7 Tryz.underlying42 rfl (info_kc _ _) (info_kc _ _) ?_
 exact ⟨_, _, rfl, (HO1.out.chg rz ne_cipher (Chg.of_wrote hw6)).chg ry6 ne_cipher (Chg.of_wrote hw7), (HO2.out.chg rz ne_cipher (Chg.of_wrote hw6)).chg ry6 ne_cipher (Chg.of_wrote hw7), hw7.below _ _ (by omega) (hw6.below _ _ (Nat.le_refl _) hb3)⟩
end Go.Proofs.YtdlmmcilembjgaaGreatDoor

namespace Go.Proofs.YtdlmmcilembjgaaGreatDoor
set_option linter.unusedVariables false

theorem rk16_first : (rkC ⟨ky16a, 0⟩).key.getD 0 0 ≠ ky16b.getD 0 0 := by decide +kernel
theorem rk16_apart : (rkC ⟨ky16a, 0⟩).key ≠ ky16b := fun e => rk16_first (by rw [e])
end Go.Proofs.YtdlmmcilembjgaaGreatDoor

namespace Go.Proofs.YtdlmmcilembjgaaGreatDoor
open Go.ChangeShapes Go.WideShapes Go.ChangeAt Go.RowKit
set_option linter.unusedSimpArgs false
set_option linter.unusedVariables false

theorem StP.mono {base base' g : Nat} {s : Sta} {w : World} (h : StP base g s w) (hb : base' ≤ base) : StP base' g s w := by
 obtain ⟨vc, vh, vk, h1, h2, h3, h4⟩ := h
 exact ⟨vc, vh, vk, h1, h2.mono hb, h3.mono hb, h4.mono hb⟩
theorem StP.cellH {base g : Nat} {s : Sta} {w : World} (h : StP base g s w) : ∃ a c, w.cell? ⟨g, 1, none⟩ = some (.slice a s.h.length c) := by
 obtain ⟨vc, vh, vk, h1, h2, h3, h4⟩ := h
 obtain ⟨a, c, rfl, -⟩ := h3.rd
 exact ⟨a, c, h1.cell 1⟩
theorem Rd.marked16 {w : World} {e : TypeId} {fr : Nat × Nat} (l : List UInt8) {cs : Array Value} {n b : Nat} (h : cs = (l.map bv).toArray) (hn : n = l.length) (hb : b = w.heap.size) (hm : l.length ≤ maxLen) : Rd (w.alloc (.cells cs e fr)) (.slice (some ⟨b, 0, none⟩) n n) l := by
 subst h hn hb
 refine ⟨_, _, rfl, Nat.le_refl _, hm, (fun h => by cases h), .inr ⟨_, 0, rfl, fun i hi => ?_⟩⟩
 have hh : (w.alloc (.cells (l.map bv).toArray e fr)).heap[w.heap.size]? = some (.cells (l.map bv).toArray e fr) := by
  show (w.heap.push _)[w.heap.size]? = _
  simp
 unfold World.cell?
 rw [hh]
 simp [hi, bv]
def naL : List UInt8 := [97, 32, 110, 97, 109, 101]
def txL : List UInt8 := [116, 101, 120, 116]
theorem na_ck : (nwS naL).ck = nm16 := by decide +kernel
def sa1 : Sta := mkS (nwS naL) [1]
def sX : List UInt8 := seL sa1.c.key (ncL 0) sa1.h txL
def sa2 : Sta := ⟨sa1.ck, s2L (sa1.h ++ sX), ⟨sa1.c.key, 1⟩⟩
def sa3 : Sta := mbS sa2 []
theorem sa1_se : seS sa1 txL = (sa2, sX, 0) := (opS_seS sa1 txL (mcF_length _ _) (by show (0 : Nat) ≠ _; decide)).1
theorem sa1_op : opS sa1 sX = (sa2, txL, 0) := (opS_seS sa1 txL (mcF_length _ _) (by show (0 : Nat) ≠ _; decide)).2
theorem sX_len : sX.length = 20 := by
 show (seL _ _ _ _).length = 20
 rw [seL_len]
 rfl
theorem sa1_ck : sa1.ck = ck16a := by
 show k1F (nwS naL).ck [1] = _
 rw [na_ck]
 exact ck16a_is
theorem sa3_ck : sa3.ck = ck16b := by
 show k1F sa1.ck [] = _
 rw [sa1_ck]
 exact ck16b_is
theorem sp_1 : (spS sa3).1.key = ky16a := by
 show k1F sa3.ck [] = _
 rw [sa3_ck]
 exact ky16_is.1
theorem sp_2 : (spS sa3).2.key = ky16b := by
 show k2F sa3.ck [] = _
 rw [sa3_ck]
 exact ky16_is.2
theorem sp_apart : ((rkC ⟨(spS sa3).1.key, 0⟩).key == (spS sa3).2.key) = false := by
 rw [sp_1, sp_2]
 simpa using rk16_apart
theorem sp_len1 : (rkC ⟨(spS sa3).1.key, 0⟩).key.length = 32 := rkC_len _ (mcF_length _ _)
theorem sp_len2 : (spS sa3).2.key.length = 32 := mcF_length _ _
theorem sound1 : Sound sa1 := (Sound.nw naL).mx [1]
theorem sound2 : Sound sa2 := ⟨mcF_length _ _, s2L_length _, .inr (mcF_length _ _), by show 1 < _; decide⟩

set_option maxRecDepth 100000 in
set_option maxHeartbeats 4000000 in
theorem awake_any (w : World) (ht : Tabs w) (hp : PlT w) (hk : KpT w) : Calls Tryz.prog 5 #[] w fun e w' => e = .returned (.bool true) ∧ Below w.heap.size w w' := by
 have HT : Hid (Tabs w) := ht
 have HP : Hid (PlT w) := hp
 have HK : Hid (KpT w) := hk
 have kc := fun (w : World) (C : Array Value) (n c : Nat) => Lib.run_convert_bytes_const (P := Tryz.prog) w 26 5 C n c Tryz.underlying26 Tryz.underlying5
 clear ht hp hk
 go_enter Tryz.func5, Tryz.ntmps5
 go_wp2_with fail
 refine (snew_any naL (by decide) _ HT.out).mono ?_
 rintro e w1 ⟨g1, rfl, hg1, hS1, b1⟩
 have HS1 : Hid (StP w.heap.size g1 (nwS naL) w1) := hS1
 clear hS1
 go_wp2_with fail
 refine (snew_any naL (by decide) _ (HT.out.kept b1)).mono ?_
 rintro e w2 ⟨g2, rfl, hg2, hS2, b2⟩
 have HN : Hid (g1 ≠ g2) := (by have := HS1.out.lt; omega : g1 ≠ g2)
 have HS2 : Hid (StP w.heap.size g2 (nwS naL) w2) := hS2.mono b1.size
 have HG1 : Hid (w.heap.size ≤ g1) := hg1
 have HG2 : Hid (w.heap.size ≤ g2) := Nat.le_trans b1.size hg2
 replace HS1 : Hid (StP w.heap.size g1 (nwS naL) w2) := HS1.out.kept b2
 have HB : Hid (Below w.heap.size w w2) := stepB b1 b2
 obtain ⟨ah, ch, hc1⟩ := HS1.out.cellH
 rw [show (nwS naL).h.length = 32 from nwH_length naL] at hc1
 clear hS2 hg1 hg2 b1 b2
 have HB3 : Hid (Below w.heap.size w (w2.alloc (.cells #[.int .u8 1] 5))) := stepB HB.out (growB _)
 go_wp2_with fail
 refine (smixkey_any w.heap.size g1 (nwS naL) _ [1] (by decide) _ HB3.out.size (HS1.out.kept (growB _)) (Rd.lit1 1 rfl) (HT.out.kept HB3.out)).mono ?_
 rintro e w3 ⟨rfl, hS3, c3⟩
 have HB4 : Hid (Below w.heap.size w w3) := Chg.gone HB3.out c3 HB3.out.size HG1.out
 replace HS2 : Hid (StP w.heap.size g2 (nwS naL) w3) := (HS2.out.kept (growB _)).other (HS1.out.kept (growB _)) c3 HN.out.symm
 replace HS1 : Hid (StP w.heap.size g1 sa1 w3) := hS3
 clear hS3 c3 HB3 HB hc1
 have HB5 : Hid (Below w.heap.size w (w3.alloc (.cells #[.int .u8 1] 5))) := stepB HB4.out (growB _)
 go_wp2_with fail
 refine (smixkey_any w.heap.size g2 (nwS naL) _ [1] (by decide) _ HB5.out.size (HS2.out.kept (growB _)) (Rd.lit1 1 rfl) (HT.out.kept HB5.out)).mono ?_
 rintro e w4 ⟨rfl, hS4, c4⟩
 have HB6 : Hid (Below w.heap.size w w4) := Chg.gone HB5.out c4 HB5.out.size HG2.out
 replace HS1 : Hid (StP w.heap.size g1 sa1 w4) := (HS1.out.kept (growB _)).other (HS2.out.kept (growB _)) c4 HN.out
 replace HS2 : Hid (StP w.heap.size g2 sa1 w4) := hS4
 clear hS4 c4 HB4 HB5
 have b5 : Below w4.heap.size w4 (w4.alloc (.cells #[.int .u8 116, .int .u8 101, .int .u8 120, .int .u8 116] 5 (4, 5))) := growB _
 have hT5 : Rd (w4.alloc (.cells #[.int .u8 116, .int .u8 101, .int .u8 120, .int .u8 116] 5 (4, 5))) (.slice (some ⟨w4.heap.size, 0, none⟩) 4 4) txL := Rd.marked16 txL rfl rfl rfl (by decide)
 generalize hw5 : w4.alloc (.cells #[.int .u8 116, .int .u8 101, .int .u8 120, .int .u8 116] 5 (4, 5)) = w5 at b5 hT5
 have HW5 : Hid _ := hw5
 clear hw5
 go_wp2_with fail
 rw [HW5.out]
 replace HS1 : Hid (StP w.heap.size g1 sa1 w5) := HS1.out.kept b5
 replace HS2 : Hid (StP w.heap.size g2 sa1 w5) := HS2.out.kept b5
 have HB7 : Hid (Below w.heap.size w w5) := stepB HB6.out b5
 refine (sseal_any w.heap.size g1 sa1 sound1.n _ txL (by decide) (by rw [sound1.h]; decide) _ HG1.out HS1.out hT5 w rfl HB7.out HT.out HP.out HK.out).mono ?_
 rw [sa1_se]
 rintro e w6 ⟨x, rfl, hX, hS6, c6⟩
 replace hX : Ow 5 w5.heap.size x sX w6 := hX
 replace HS2 : Hid (StP w.heap.size g2 sa1 w6) := HS2.out.other HS1.out c6 HN.out.symm
 replace HS1 : Hid (StP w.heap.size g1 sa2 w6) := hS6
 have HB8 : Hid (Below w.heap.size w w6) := Chg.gone HB7.out c6 HB7.out.size HG1.out
 obtain ⟨ax, cx, rfl, hcx, hmx, -, -⟩ := id hX.rd
 rw [sX_len] at hX hcx ⊢
 unfold maxLen at hmx
 have HX : Hid (Ow 5 _ (.slice ax 20 cx) sX w6) := hX
 clear hX hS6 c6 HB7 b5 hT5 HW5 HB6
 go_wp2_with fail
 refine (sopen_any w.heap.size g2 sa1 sound1.n _ sX (by rw [sX_len]; decide) (by rw [sound1.h]; decide) _ HG2.out HS2.out HX.out.rd w rfl HB8.out HT.out HP.out HK.out).mono ?_
 rw [sa1_op]
 rintro e w7 ⟨y, rfl, hY, hS7, c7⟩
 replace hY : Ow 5 w6.heap.size y txL w7 := hY
 replace HS1 : Hid (StP w.heap.size g1 sa2 w7) := HS1.out.other HS2.out c7 HN.out
 have HB9 : Hid (Below w.heap.size w w7) := Chg.gone HB8.out c7 HB8.out.size HG2.out
 have HY : Hid (Ow 5 _ y txL w7) := hY
 clear hY hS7 c7 HB8 HX HS2
 go_wp2_with fail
 refine (smixboth_any w.heap.size g1 sa2 _ [] (by decide) (by rw [sound2.h]; decide) _ HB9.out.size HG1.out HS1.out (Rd.nil _) w rfl HB9.out HT.out).mono ?_
 rintro e w8 ⟨rfl, hS8, c8⟩
 replace HY : Hid (Ow 5 _ y txL w8) := StP.own HY.out HS1.out c8
 have HB10 : Hid (Below w.heap.size w w8) := Chg.gone HB9.out c8 HB9.out.size HG1.out
 replace HS1 : Hid (StP w.heap.size g1 sa3 w8) := hS8
 clear hS8 c8 HB9
 go_wp2_with fail
 refine (ssplit_any w.heap.size g1 sa3 _ HS1.out (HT.out.kept HB10.out)).mono ?_
 have h1 := sp_len1
 have h2 := sp_len2
 have h3 := sp_apart
 have h4 : (spS sa3).1.key.length = 32 := mcF_length _ _
 generalize (spS sa3).1.key = K1 at h1 h3 h4 ⊢
 generalize (spS sa3).2.key = K2 at h2 h3 ⊢
 rintro e w9 ⟨vp, vq, rfl, hp, hq, b9⟩
 obtain ⟨ap, cp, rfl, -⟩ := id hp.rd
 obtain ⟨aq, cq, rfl, -⟩ := id hq.rd
 rw [h4] at hp ⊢
 rw [h2] at hq ⊢
 have HPk : Hid (Ow 5 _ (.slice ap 32 cp) K1 w9) := hp
 have HQk : Hid (Ow 5 _ (.slice aq 32 cq) K2 w9) := hq
 have H1 : Hid _ := h1
 have H3 : Hid _ := h3
 have H4 : Hid (K1.length = 32) := h4
 replace HY : Hid (Ow 5 _ y txL w9) := HY.out.kept b9
 have HB11 : Hid (Below w.heap.size w w9) := stepB HB10.out b9
 clear hp hq h1 h2 h3 h4 HB10 b9 HS1
 go_wp2_with (refine wpList_alloc_blk rfl 42 rfl (ckD (.slice none 0 0) 0) (alloc_kc _) ?_)
 intro wa rp ba sa
 go_wp2_with (refine wpList_alloc_blk rfl 42 rfl (ckD (.slice none 0 0) 0) (alloc_kc _) ?_)
 intro wb rq bb sb
 replace rp := rp.kept bb
 have na : w9.heap.size < wa.heap.size := by have := sa.out; omega
 have bab := stepB ba bb
 clear sa sb
 go_wp2_with (first | (refine wpList_store_part rfl 42 _ _ rfl rfl (ckD (.slice ap 32 cp) 0) rfl [] (ckD (.slice none 0 0) 0) [] (ckD (.slice ap 32 cp) 0) rp (wholeS _) (wholeS _) rfl rfl (info_kc (.slice none 0 0) 0) (ckD_all _ _ _ _) ?_; intro wc rc hwc; have rq6 := rq.wrote hwc (by omega)) | (refine wpList_store_part rfl 42 _ _ rfl rfl (ckD (.slice aq 32 cq) 0) rfl [] (ckD (.slice none 0 0) 0) [] (ckD (.slice aq 32 cq) 0) rq6 (wholeS _) (wholeS _) rfl rfl (info_kc (.slice none 0 0) 0) (ckD_all _ _ _ _) ?_; intro wd rd hwd))
 have rcd := rc.wrote hwd (by omega)
 have cw := fun {v l b} (h : Ow 5 b v l w9) => ((h.kept bab).chg rp ne_cipher (Chg.of_wrote hwc)).chg rq6 ne_cipher (Chg.of_wrote hwd)
 have HP2 : Hid (Ow 5 _ (.slice ap 32 cp) K1 wd) := cw HPk.out
 have HQ2 : Hid (Ow 5 _ (.slice aq 32 cq) K2 wd) := cw HQk.out
 have HY2 : Hid (Ow 5 _ y txL wd) := cw HY.out
 have bd : Below w.heap.size w wd := hwd.below _ _ (by have := HB11.out.size; omega) (hwc.below _ _ HB11.out.size (stepB HB11.out bab))
 have HBd : Hid (Below w.heap.size w wd) := bd
 have HRp : Hid (BlkAt w9.heap.size 42 _ wd) := rcd
 have HRq : Hid (BlkAt wa.heap.size 42 _ wd) := rd
 have HNa : Hid (w9.heap.size ≠ wa.heap.size) := (by omega : w9.heap.size ≠ wa.heap.size)
 have HGp : Hid (w.heap.size ≤ w9.heap.size) := HB11.out.size
 clear cw rc hwc rq6 rd hwd rcd bd rp rq bab ba bb na HPk HQk HY HB11
 refine (crekey_any ⟨K1, 0⟩ w9.heap.size 0 42 ne_cipher [] [] rfl ap cp _ (by have := HRp.out; rw [← H4.out] at this; exact this) (by have := HP2.out.rd; rw [← H4.out] at this; exact this) (HP.out.kept HBd.out) (HK.out.kept HBd.out)).mono ?_
 rintro e we ⟨rfl, xp, hxp, ce, hBe⟩
 have hq2 := HQ2.out.chg HRp.out ne_cipher ce
 have hy2 := HY2.out.chg HRp.out ne_cipher ce
 have hRq := HRq.out.chg ce HNa.out.symm
 have hbe : Below w.heap.size w we := Chg.gone HBd.out ce HBd.out.size HGp.out
 obtain ⟨axp, cxp, rfl, -⟩ := id hxp
 have hL := H1.out
 have hne := H3.out
 generalize (rkC ⟨K1, 0⟩).key = K3 at hL hne hxp hBe
 rw [hL] at hxp hBe
 have hBe' : BlkAt w9.heap.size 42 (ckD (.slice axp 32 cxp) 0) we := hBe
 have d0 : we.cell? ⟨w9.heap.size, 0, none⟩ = some (.slice axp 32 cxp) := hBe'.cell 0
 have d1 : we.cell? ⟨wa.heap.size, 0, none⟩ = some (.slice aq 32 cq) := hRq.cell 0
 obtain ⟨ay, cy, rfl, -⟩ := id hy2.rd
 have cv1 := convS hxp
 have cv2 := convS hq2.rd
 have cv3 := convS hy2.rd
 have HBe : Hid _ := hbe
 clear hBe hBe' hRq hbe hxp hq2 hy2 HP2 HQ2 HY2 HRp HRq HBd ce hL H1 H3 H4
 go_wp2_with fail
 go_ret
 exact ⟨by simp [txL], HBe.out⟩
theorem wp_make_new {P : Program} {e : TypeId} {w : World} {o : Oper} {a : Act} {K : Act → World → Prop} {Q : Exit → Act → World → Prop} (l c : Operand) (t : TypeId) (ho : o.op = .makeSlice t l c) (hu : P.underlying t = some (.slice e))
  (hinfo : (P.info? e).map (fun i => (i.zero, i.size, i.bytes)) = some (some (.int .u8 0), 1, 1)) (n : Nat) (hl : a.eval l = .int .i64 (n : Int)) (hc : a.eval c = .int .i64 (n : Int)) (hn : n ≤ 1000000)
  (h : ∀ w', New e w (.slice (some ⟨w.heap.size, 0, none⟩) n n) (List.replicate n 0) w' → K (a.put o.dst (.slice (some ⟨w.heap.size, 0, none⟩) n n)) w') : o.wp P a w K Q := by
 obtain ⟨i, hi, hz0, hz1, hz2⟩ := info_parts hinfo
 obtain ⟨w', hrun, r1, r2⟩ := run_make_full (P := P) w w.heap.size t e i _ 1 hu hi hz0 hz1 .i64 .i64 n (by rw [hz2]; omega) (by unfold maxLen; omega) (Nat.le_refl _)
 unfold Oper.wp
 simp [execOp, ho, hl, hc, hrun, Result.andThen]
 rw [Nat.mul_one] at r1
 exact h w' (New.made r1 r2)

set_option maxRecDepth 100000 in
set_option maxHeartbeats 2000000 in
theorem nonce16_any (x : Nat) (hx : x < 18446744073709551616) (w : World) : Calls Tryz.prog 46 #[.int .u64 (x : Int)] w fun e w' => ∃ v, e = .returned v ∧ New 5 w v (ncL x) w' := by
 have HX : Hid _ := hx
 have HL : Hid ((List.replicate 4 (0 : UInt8)).length + (st8 x).length ≤ 140737488355328) := by show _ ≤ _; rw [List.length_replicate, st8_length]; omega
 clear hx
 go_enter Tryz.func46, Tryz.ntmps46
 go_wp2_with fail
 have hB : Below w.heap.size w w.drew := (Below.refl _ _).drew
 refine wpB_begin (Below.refl w.heap.size w) (by kernel_rfl) ?_
 refine wpB_t (hb := hB) (i := 1) (oi := ⟨some 4, .move (.tmp 0), 27, "ref.go:18", #[], none⟩) (v := ?_) ?_ ?_
 rotate_left
 ·intro W hW; go_simp <;> with_reducible rfl
 try simp only [Act.put, putA, putB, putC]
 refine wpB_fork (i := 0) (j := 2) (oi := ⟨some 3, .makeSlice 26 (.const (.int .i64 4)) (.const (.int .i64 4)), 26, "ref.go:18", #[], none⟩) (oj := ⟨some 5, .call { callee := .value (.func 61), args := #[.tmp 4, .const (.int .i64 8)], argTypes := #[27, 3] }, 26, "ref.go:18", #[⟨1, .data⟩], none⟩) (by kernel_rfl) rfl rfl (by rfl) (by rfl) (fun K hK => ?_) (fun K hK => ?_)
 ·refine wp_make_new _ _ 26 rfl Tryz.underlying26 infoU8 4 rfl rfl (by decide) ?_
  intro wm hNm
  have hM := hNm.rd
  replace hB := stepB hB hNm.2
  try replace hS := Rd.kept hS hNm.2
  refine hK.out _ _ hB ?_
  clear hK K
  try simp only [Act.put, putA, putB, putC]
  refine wpB_do (i := 2) (o := ⟨some 5, .call { callee := .value (.func 61), args := #[.tmp 4, .const (.int .i64 8)], argTypes := #[27, 3] }, 26, "ref.go:18", #[⟨1, .data⟩], none⟩) (by kernel_rfl) rfl (by rfl) fun K hK => ?_
  go_simp
  refine (refstore_k x HX.out 8 8 (by decide) (.inr (.inl ⟨by decide, by decide, rfl⟩)) _).mono ?_
  rintro e ws ⟨vs, rfl, hNs⟩
  have hS : Rd ws vs (st8 x) := hNs.rd
  replace hB := stepB hB hNs.2
  try replace hM := Rd.kept hM hNs.2
  refine hK.out _ _ hB ?_
  clear hK K
  try simp only [Act.put, putA, putB, putC]
  refine wpB_do (i := 3) (o := ⟨some 6, .call { callee := .value (.func 29), args := #[.tmp 3, .tmp 5], argTypes := #[26, 26] }, 26, "ref.go:18", #[⟨0, .data⟩, ⟨2, .data⟩, ⟨2, .chain⟩], none⟩) (by kernel_rfl) rfl (by rfl) fun K hK => ?_
  go_simp
  refine (joinR_any _ _ (List.replicate 4 0) (st8 x) HL.out _ hM hS).mono ?_
  rintro e wj ⟨vj, rfl, hNj⟩
  have HJ : Hid (New 5 w vj (ncL x) wj) := hNj.from hB
  replace hB := stepB hB hNj.2
  refine hK.out _ _ hB ?_
  clear hK K
  try simp only [Act.put, putA, putB, putC]
  refine wpB_t (hb := hB) (i := 4) (oi := ⟨some 2, .assign (.tmp 6), 26, "ref.go:18", #[⟨3, .data⟩, ⟨3, .chain⟩, ⟨0, .phase⟩, ⟨1, .phase⟩, ⟨2, .phase⟩, ⟨3, .phase⟩], none⟩) (v := ?_) ?_ ?_
  rotate_left
  ·intro W hW; go_simp <;> with_reducible rfl
  try simp only [Act.put, putA, putB, putC]
  refine wpB_done (by kernel_rfl) ?_
  go_wp2
  go_ret
  exact ⟨vj, rfl, HJ.out⟩
 ·go_simp
  refine (refstore_k x HX.out 8 8 (by decide) (.inr (.inl ⟨by decide, by decide, rfl⟩)) _).mono ?_
  rintro e ws ⟨vs, rfl, hNs⟩
  have hS : Rd ws vs (st8 x) := hNs.rd
  replace hB := stepB hB hNs.2
  try replace hM := Rd.kept hM hNs.2
  refine hK.out _ _ hB ?_
  clear hK K
  try simp only [Act.put, putA, putB, putC]
  refine wpB_do (i := 0) (o := ⟨some 3, .makeSlice 26 (.const (.int .i64 4)) (.const (.int .i64 4)), 26, "ref.go:18", #[], none⟩) (by kernel_rfl) rfl (by rfl) fun K hK => ?_
  refine wp_make_new _ _ 26 rfl Tryz.underlying26 infoU8 4 rfl rfl (by decide) ?_
  intro wm hNm
  have hM := hNm.rd
  replace hB := stepB hB hNm.2
  try replace hS := Rd.kept hS hNm.2
  refine hK.out _ _ hB ?_
  clear hK K
  try simp only [Act.put, putA, putB, putC]
  refine wpB_do (i := 3) (o := ⟨some 6, .call { callee := .value (.func 29), args := #[.tmp 3, .tmp 5], argTypes := #[26, 26] }, 26, "ref.go:18", #[⟨0, .data⟩, ⟨2, .data⟩, ⟨2, .chain⟩], none⟩) (by kernel_rfl) rfl (by rfl) fun K hK => ?_
  go_simp
  refine (joinR_any _ _ (List.replicate 4 0) (st8 x) HL.out _ hM hS).mono ?_
  rintro e wj ⟨vj, rfl, hNj⟩
  have HJ : Hid (New 5 w vj (ncL x) wj) := hNj.from hB
  replace hB := stepB hB hNj.2
  refine hK.out _ _ hB ?_
  clear hK K
  try simp only [Act.put, putA, putB, putC]
  refine wpB_t (hb := hB) (i := 4) (oi := ⟨some 2, .assign (.tmp 6), 26, "ref.go:18", #[⟨3, .data⟩, ⟨3, .chain⟩, ⟨0, .phase⟩, ⟨1, .phase⟩, ⟨2, .phase⟩, ⟨3, .phase⟩], none⟩) (v := ?_) ?_ ?_
  rotate_left
  ·intro W hW; go_simp <;> with_reducible rfl
  try simp only [Act.put, putA, putB, putC]
  refine wpB_done (by kernel_rfl) ?_
  go_wp2
  go_ret
  exact ⟨vj, rfl, HJ.out⟩

def ciC (vk : Value) (n : Nat) : List Value := [vk, .int .u64 (n : Int)]
theorem alloc_ci (w : World) : (Instr.alloc 29 true (.tuple #[])).run Tryz.prog w = .ok (.pointer (some ⟨w.heap.size, 0, none⟩)) (w.alloc (.cells (ciC (.slice none 0 0) 0).toArray 29)) := by kernel_rfl
theorem info_ci (vk : Value) (n : Nat) : (Tryz.prog.info? 29).map (·.size) = some (ciC vk n).length := by
 show _ = some 2
 kernel_rfl
theorem ciC_all (a : Option Addr) (l c n : Nat) : (ciC (.slice a l c) n).toArray.all (·.oneCell') = true := by kernel_rfl
theorem build_ci (a : Option Addr) (l c : Nat) (x : Int) (w : World) : (Instr.build 29 #[(0, .slice a l c), (1, .int .u64 x)]).run Tryz.prog w = .ok (.agg #[.slice a l c, .int .u64 x]) w := by kernel_rfl
theorem whole16 (l : List Value) : l = [] ++ l ++ [] := by simp
theorem cell16 {w W : World} {p : Addr} {v : Value} (h : w.cell? p = some v) (hb : Below w.drew.heap.size w.drew W) : W.cell? p = some v := by
 have h2 : w.drew.cell? p = some v := h
 rw [hb.cell (World.block_lt_of_cell? _ _ h2)]
 exact h2
theorem bodyPost_blk3 {P : Program} {fn : Func} {p q r : Tmp} {ty bt : TypeId} {g : Nat} {cs : List Value} {d : TypeDesc} {v u : Value} {R : Ending → World → Prop} {a : Act} {w : World} (h : fn.results = #[.cell p ty, .tmp q, .tmp r]) (hd : a.defers = [])
  (hp : a.tmps.getD p undef = .pointer (some ⟨g, 0, none⟩)) (hq : a.tmps.getD q undef = v) (hr : a.tmps.getD r undef = u) (hb : BlkAt g bt cs w) (hu : P.underlying ty = some d) (hrow : d.isRow = true) (hi : (P.info? ty).map (·.size) = some cs.length)
  (hR : R (.returned (.tuple #[.agg cs.toArray, v, u])) w) : bodyPost P fn R .ret a w := by
 refine bodyPost_ret ?_ hd hR
 have hp' : a.tmps[p]?.getD undef = .pointer (some ⟨g, 0, none⟩) := by simpa using hp
 have hq' : a.tmps[q]?.getD undef = v := by simpa using hq
 have hr' : a.tmps[r]?.getD undef = u := by simpa using hr
 have hb' : BlkAt g bt (([] : List Value) ++ cs ++ []) w := by simpa using hb
 have hl := run_loadVar_mid (P := P) w g 0 ty cs d hb'.range hu hrow hi
 simp [results, h, hp', hq', hr', asAddr, hl]
theorem seC_cases (c : Cph) (ad t : List UInt8) : (c.key.length = 0 ∧ seC c ad t = (c, t, 0)) ∨ (c.key.length ≠ 0 ∧ c.key.length ≠ 32 ∧ seC c ad t = (c, [], 1)) ∨ (c.key.length = 32 ∧ c.n = 18446744073709551615 ∧ seC c ad t = (c, [], 31)) ∨ (c.key.length = 32 ∧ c.n ≠ 18446744073709551615 ∧ seC c ad t = (⟨c.key, c.n + 1⟩, seL c.key (ncL c.n) ad t, 0)) := by
 unfold seC
 by_cases h0 : c.key.length = 0
 ·exact .inl ⟨h0, if_pos h0⟩
 ·by_cases h1 : c.key.length = 32
  ·by_cases h2 : c.n = 18446744073709551615
   ·exact .inr (.inr (.inl ⟨h1, h2, by rw [if_neg h0, if_neg (by omega), if_pos h2]⟩))
   ·exact .inr (.inr (.inr ⟨h1, h2, by rw [if_neg h0, if_neg (by omega), if_neg h2]⟩))
  ·exact .inr (.inl ⟨h0, h1, by rw [if_neg h0, if_pos h1]⟩)

set_option maxRecDepth 100000 in
set_option maxHeartbeats 4000000 in
theorem seal16_any (c : Cph) (vk va vt : Value) (ad t : List UInt8) (A : Array Value) (hA : A = (ciC vk c.n).toArray) (hn : c.n < 18446744073709551616) (hla : ad.length ≤ 3000000) (hlt : t.length ≤ 3000000) (w : World) (hk : Rd w vk c.key) (ha : Rd w va ad) (ht : Rd w vt t) :
  Calls Tryz.prog 32 #[.agg A, va, vt] w fun e w' => ∃ x, e = .returned (.tuple #[.agg (ciC vk (seC c ad t).1.n).toArray, x, .int .i64 (seC c ad t).2.2]) ∧ Rd w' x (seC c ad t).2.1 ∧ Below w.heap.size w w' := by
 have hcase := seC_cases c ad t
 obtain ⟨key, n⟩ := c
 obtain ⟨ak, ck, rfl, hk2, hk3, -, -⟩ := id hk
 unfold maxLen at hk3
 have HK : Hid (Rd w (.slice ak key.length ck) key) := hk
 have HA : Hid (Rd w va ad) := ha
 have HT : Hid (Rd w vt t) := ht
 have HLa : Hid _ := hla
 have HLt : Hid _ := hlt
 have hnI : (n : Int) < 18446744073709551616 := by have : n < 18446744073709551616 := hn; omega
 generalize seC ⟨key, n⟩ ad t = R at hcase ⊢
 replace hA : A = (ciC (.slice ak key.length ck) n).toArray := hA
 have HN : Hid (n < 18446744073709551616) := hn
 clear hk ha ht hla hlt hn
 go_enter Tryz.func32, Tryz.ntmps32
 go_wp2_with (refine wpList_box_blk rfl 29 _ rfl (ciC (.slice ak key.length ck) n) (by rw [← hA]; rfl) ?_)
 intro w1 r1 b1 s1
 go_wp2_with (refine wpList_alloc_blk rfl 29 rfl (ciC (.slice none 0 0) 0) (alloc_ci _) ?_)
 intro w2 rz b2 s2
 replace r1 := r1.kept b2
 have hbw := stepB b1 b2
 have n1 : w.heap.size < w1.heap.size := by have := s1.out; omega
 have c0 : w2.cell? ⟨w.heap.size, 0, none⟩ = some (.slice ak key.length ck) := r1.cell 0
 have c1 : w2.cell? ⟨w.heap.size, 1, none⟩ = some (.int .u64 (n : Int)) := r1.cell 1
 have z1 := b1.size
 clear b1 b2 s1 s2 hA
 rcases hcase with ⟨h1, rfl⟩ | ⟨h1, h2, rfl⟩ | ⟨h1, h2, rfl⟩ | ⟨h1, h2, rfl⟩
 ·have e1 : ((key.length : Int) == 0) = true := by rw [show key.length = 0 from h1]; rfl
  clear h1
  go_wp2_with (first | refine wpList_load_part rfl 29 _ rfl rfl [] (ciC (.slice ak key.length ck) n) [] r1 (whole16 _) rfl Tryz.underlying29 rfl (info_ci _ _) ?_ | (refine wpList_store_part rfl 29 _ _ rfl rfl (ciC (.slice ak key.length ck) n) rfl [] (ciC (.slice none 0 0) 0) [] (ciC (.slice ak key.length ck) n) rz (whole16 _) (whole16 _) rfl rfl (info_ci (.slice none 0 0) 0) (ciC_all _ _ _ _) ?_; intro w7 r7 hw7))
  refine bodyPost_blk3 rfl rfl rfl rfl rfl r7 Tryz.underlying29 rfl (info_ci _ _) ?_
  exact ⟨_, rfl, Rd.kept HT.out (hw7.below _ _ z1 hbw), hw7.below _ _ z1 hbw⟩
 ·have h1' : key.length ≠ 0 := h1
  have h2' : key.length ≠ 32 := h2
  have e1 : ((key.length : Int) == 0) = false := by rw [beq_eq_false_iff_ne]; omega
  have e2 : ((key.length : Int) != 32) = true := by simp; omega
  clear h1 h2 h1' h2'
  go_wp2_with (first | refine wpList_load_part rfl 29 _ rfl rfl [] (ciC (.slice ak key.length ck) n) [] r1 (whole16 _) rfl Tryz.underlying29 rfl (info_ci _ _) ?_ | (refine wpList_store_part rfl 29 _ _ rfl rfl (ciC (.slice ak key.length ck) n) rfl [] (ciC (.slice none 0 0) 0) [] (ciC (.slice ak key.length ck) n) rz (whole16 _) (whole16 _) rfl rfl (info_ci (.slice none 0 0) 0) (ciC_all _ _ _ _) ?_; intro w7 r7 hw7))
  refine bodyPost_blk3 rfl rfl rfl rfl rfl r7 Tryz.underlying29 rfl (info_ci _ _) ?_
  exact ⟨_, rfl, Rd.nil _, hw7.below _ _ z1 hbw⟩
 ·have h1' : key.length = 32 := h1
  have h2' : n = 18446744073709551615 := h2
  have e1 : ((key.length : Int) == 0) = false := by rw [beq_eq_false_iff_ne]; omega
  have e2 : ((key.length : Int) != 32) = false := by simp; omega
  have e3 : ((n : Int) == 18446744073709551615) = true := by simp; omega
  clear h1 h2 h1' h2'
  go_wp2_with (first | refine wpList_load_part rfl 29 _ rfl rfl [] (ciC (.slice ak key.length ck) n) [] r1 (whole16 _) rfl Tryz.underlying29 rfl (info_ci _ _) ?_ | (refine wpList_store_part rfl 29 _ _ rfl rfl (ciC (.slice ak key.length ck) n) rfl [] (ciC (.slice none 0 0) 0) [] (ciC (.slice ak key.length ck) n) rz (whole16 _) (whole16 _) rfl rfl (info_ci (.slice none 0 0) 0) (ciC_all _ _ _ _) ?_; intro w7 r7 hw7))
  refine bodyPost_blk3 rfl rfl rfl rfl rfl r7 Tryz.underlying29 rfl (info_ci _ _) ?_
  exact ⟨_, rfl, Rd.nil _, hw7.below _ _ z1 hbw⟩
 ·have h1' : key.length = 32 := h1
  have h2' : n ≠ 18446744073709551615 := h2
  have e1 : ((key.length : Int) == 0) = false := by rw [beq_eq_false_iff_ne]; omega
  have e2 : ((key.length : Int) != 32) = false := by simp; omega
  have e3 : ((n : Int) == 18446744073709551615) = false := by simp; omega
  have HK32 : Hid (key.length = 32) := h1'
  obtain ⟨m, hm⟩ : ∃ m : Nat, m = n + 1 := ⟨_, rfl⟩
  have HMm : Hid (m = n + 1) := hm
  have e4 : IntKind.u64.wrap ((n : Int) + 1) = (m : Int) := by rw [IntKind.wrap_u64]; have := HN.out; omega
  have e5 : ((n : Int) + 1) % 18446744073709551616 = (m : Int) := by have := HN.out; omega
  have hbd := hbw.drew
  clear h1 h2 h1' h2' hm
  go_wp2_with fail
  refine wpG_begin (by kernel_rfl) ?_
  refine wpG_t (i := 0) (oi := ⟨some 27, .fieldAddr 29 (.tmp 3) 0, 0, "ref.go:31", #[], none⟩) (v := ?_) ?_ ?_
  rotate_left
  ·intro W hW; go_simp <;> with_reducible rfl
  try simp only [Act.put, putA, putB, putC]
  refine wpG_t (i := 1) (oi := ⟨some 28, .load 26 (.tmp 27), 26, "ref.go:31", #[⟨0, .data⟩], none⟩) (v := ?_) ?_ ?_
  rotate_left
  ·intro W hW; have hcW := cell16 c0 hW; go_simp <;> with_reducible rfl
  try simp only [Act.put, putA, putB, putC]
  refine wpG_t (i := 2) (oi := ⟨some 29, .fieldAddr 29 (.tmp 3) 1, 0, "ref.go:31", #[], none⟩) (v := ?_) ?_ ?_
  rotate_left
  ·intro W hW; go_simp <;> with_reducible rfl
  try simp only [Act.put, putA, putB, putC]
  refine wpG_t (i := 3) (oi := ⟨some 30, .load 27 (.tmp 29), 27, "ref.go:31", #[⟨2, .data⟩], none⟩) (v := ?_) ?_ ?_
  rotate_left
  ·intro W hW; have hcW := cell16 c1 hW; go_simp <;> with_reducible rfl
  try simp only [Act.put, putA, putB, putC]
  refine wpG_t (i := 5) (oi := ⟨some 32, .move (.tmp 1), 26, "ref.go:31", #[], none⟩) (v := ?_) ?_ ?_
  rotate_left
  ·intro W hW; go_simp <;> with_reducible rfl
  try simp only [Act.put, putA, putB, putC]
  refine wpG_t (i := 6) (oi := ⟨some 33, .move (.tmp 2), 26, "ref.go:31", #[], none⟩) (v := ?_) ?_ ?_
  rotate_left
  ·intro W hW; go_simp <;> with_reducible rfl
  try simp only [Act.put, putA, putB, putC]
  refine wpG_do (i := 4) (o := ⟨some 31, .call { callee := .value (.func 46), args := #[.tmp 30], argTypes := #[27] }, 26, "ref.go:31", #[⟨3, .data⟩], none⟩) (by kernel_rfl) rfl (by rfl) fun K hK => ?_
  go_simp
  refine (nonce16_any n HN.out _).mono ?_
  rintro e w3 ⟨v3, rfl, hN3⟩
  obtain ⟨a3, k3, rfl, -⟩ := id hN3.rd
  refine hK.out _ _ hN3.2 ?_
  clear hK K
  try simp only [Act.put, putA, putB, putC]
  refine wpG_do (i := 7) (o := ⟨some 34, .call { callee := .value (.func 45), args := #[.tmp 28, .tmp 31, .tmp 32, .tmp 33], argTypes := #[26, 26, 26, 26] }, 38, "ref.go:31", #[⟨1, .data⟩, ⟨4, .data⟩, ⟨5, .data⟩, ⟨6, .data⟩, ⟨4, .chain⟩], none⟩) (by kernel_rfl) rfl (by rfl) fun K hK => ?_
  go_simp
  refine (sealR_any _ _ _ _ key (ncL n) ad t HK32.out (ncL_length n) HLa.out HLt.out _ (Rd.kept HK.out (stepB hbd hN3.2)) hN3.rd (Rd.kept HA.out (stepB hbd hN3.2)) (Rd.kept HT.out (stepB hbd hN3.2))).mono ?_
  rintro e w4 ⟨v4, rfl, hN4⟩
  refine hK.out _ _ hN4.2 ?_
  clear hK K
  try simp only [Act.put, putA, putB, putC]
  refine wpG_t (i := 8) (oi := ⟨some 26, .move (.tmp 34), 38, "ref.go:31", #[⟨7, .data⟩], none⟩) (v := ?_) ?_ ?_
  rotate_left
  ·intro W hW; go_simp <;> with_reducible rfl
  try simp only [Act.put, putA, putB, putC]
  refine wpG_t (i := 9) (oi := ⟨some 35, .extract (.tmp 26) 0, 26, "ref.go:31", #[⟨8, .data⟩], none⟩) (v := ?_) ?_ ?_
  rotate_left
  ·intro W hW; go_simp <;> with_reducible rfl
  try simp only [Act.put, putA, putB, putC]
  refine wpG_t (i := 10) (oi := ⟨some 36, .extract (.tmp 26) 1, 35, "ref.go:31", #[⟨8, .data⟩, ⟨11, .gcOnly .lateStores⟩], none⟩) (v := ?_) ?_ ?_
  rotate_left
  ·intro W hW; go_simp <;> with_reducible rfl
  try simp only [Act.put, putA, putB, putC]
  refine wpG_t (i := 11) (oi := ⟨some 9, .assign (.tmp 35), 26, "ref.go:31", #[⟨9, .data⟩, ⟨7, .chain⟩, ⟨0, .phase⟩, ⟨1, .phase⟩, ⟨2, .phase⟩, ⟨3, .phase⟩, ⟨4, .phase⟩, ⟨5, .phase⟩, ⟨6, .phase⟩, ⟨7, .phase⟩, ⟨8, .phase⟩, ⟨9, .phase⟩, ⟨10, .textOnly .lateStores⟩], none⟩) (v := ?_) ?_ ?_
  rotate_left
  ·intro W hW; go_simp <;> with_reducible rfl
  try simp only [Act.put, putA, putB, putC]
  refine wpG_t (i := 12) (oi := ⟨some 10, .assign (.tmp 36), 35, "ref.go:31", #[⟨10, .data⟩, ⟨11, .chain⟩, ⟨0, .phase⟩, ⟨1, .phase⟩, ⟨2, .phase⟩, ⟨3, .phase⟩, ⟨4, .phase⟩, ⟨5, .phase⟩, ⟨6, .phase⟩, ⟨7, .phase⟩, ⟨8, .phase⟩, ⟨9, .phase⟩, ⟨10, .phase⟩, ⟨11, .phase⟩], none⟩) (v := ?_) ?_ ?_
  rotate_left
  ·intro W hW; go_simp <;> with_reducible rfl
  try simp only [Act.put, putA, putB, putC]
  refine wpG_done (by kernel_rfl) ?_
  have b4 := stepB hN3.2 hN4.2
  have r4 := (r1.drew.kept b4)
  have rz4 := (rz.drew.kept b4)
  have c0' : w4.cell? ⟨w.heap.size, 0, none⟩ = some (.slice ak key.length ck) := r4.cell 0
  have c1' : w4.cell? ⟨w.heap.size, 1, none⟩ = some (.int .u64 (n : Int)) := r4.cell 1
  have HX : Hid (w4.ownsRow w3.heap.size 5 1 v4 (seL key (ncL n) ad t).length ((seL key (ncL n) ad t).map bv)) := hN4.1
  have HZ3 : Hid (w1.heap.size < w3.heap.size) := Nat.lt_of_lt_of_le rz.lt hN3.2.size
  have HB4 : Hid _ := stepB hbd b4
  clear hN3 hN4 b4 c0 c1 r1 rz
  go_wp2_with (first | refine wpList_buildB rfl 29 #[(0, .tmp 38), (1, .tmp 41)] rfl _ (by go_simp; rfl) _ (build_ci _ _ _ _ _) ?_ | (refine wpList_store_part rfl 29 _ _ rfl rfl (ciC (.slice ak key.length ck) m) rfl [] (ciC (.slice none 0 0) 0) [] (ciC (.slice ak key.length ck) m) rz4 (whole16 _) (whole16 _) rfl rfl (info_ci (.slice none 0 0) 0) (ciC_all _ _ _ _) ?_; intro w7 r7 hw7))
  refine bodyPost_blk3 rfl rfl rfl rfl rfl r7 Tryz.underlying29 rfl (info_ci _ _) ?_
  refine ⟨_, by rw [HMm.out]; rfl, ?_, hw7.below _ _ z1 HB4.out⟩
  exact Rd.of_row (own_chg HX.out (Chg.of_wrote hw7) (fun g e1 e2 => by have := (HX.out.lt g e1).1; have := HZ3.out; omega))
theorem openR_q (vk vn va vb : Value) (k n a s : List UInt8) (hk32 : k.length = 32) (hn12 : n.length = 12) (hla : a.length ≤ 3000000) (hls : s.length ≤ 3000000) (w : World) (hk : Rd w vk k) (hn : Rd w vn n) (ha : Rd w va a) (hb : Rd w vb s) :
  Calls Tryz.prog 48 #[vk, vn, va, vb] w fun e w' => ∃ r, e = .returned (.tuple #[r, .int .i64 (opQ k n a s).2]) ∧ New 5 w r (opQ k n a s).1 w' := by
 unfold opQ
 by_cases h16 : s.length < 16
 ·rw [if_pos h16]
  refine (openR_short vk vn va vb k n s hk32 hn12 h16 w hk hn hb).mono ?_
  rintro e w' ⟨rfl, rfl⟩
  exact ⟨_, rfl, World.ownsRow_nil _ _ _ _, Below.refl _ _⟩
 ·rw [if_neg h16]
  have e1 : s.take (s.length - 16) ++ s.drop (s.length - 16) = s := List.take_append_drop ..
  have l1 : (s.take (s.length - 16)).length ≤ 3000000 := by rw [List.length_take]; omega
  have l2 : (s.drop (s.length - 16)).length = 16 := by rw [List.length_drop]; omega
  generalize s.take (s.length - 16) = c at e1 l1
  generalize s.drop (s.length - 16) = t at e1 l2
  subst e1
  refine (openR_any vk vn va vb k n a c t hk32 hn12 hla l1 l2 w hk hn ha hb).mono ?_
  rintro e w' ⟨h1, h2⟩
  by_cases ht : tgL k n a c = t
  ·rw [if_pos ht]
   exact h1 ht
  ·rw [if_neg ht]
   obtain ⟨rfl, hb⟩ := h2 ht
   exact ⟨_, rfl, World.ownsRow_nil _ _ _ _, hb⟩
theorem opC_cases (c : Cph) (ad t : List UInt8) : (c.key.length = 0 ∧ opC c ad t = (c, t, 0)) ∨ (c.key.length ≠ 0 ∧ c.key.length ≠ 32 ∧ opC c ad t = (c, [], 1)) ∨ (c.key.length = 32 ∧ c.n = 18446744073709551615 ∧ opC c ad t = (c, [], 31)) ∨ (c.key.length = 32 ∧ c.n ≠ 18446744073709551615 ∧ opC c ad t = if (opQ c.key (ncL c.n) ad t).2 = 0 then (⟨c.key, c.n + 1⟩, (opQ c.key (ncL c.n) ad t).1, 0) else (c, [], (opQ c.key (ncL c.n) ad t).2)) := by
 unfold opC
 by_cases h0 : c.key.length = 0
 ·exact .inl ⟨h0, if_pos h0⟩
 ·by_cases h1 : c.key.length = 32
  ·by_cases h2 : c.n = 18446744073709551615
   ·exact .inr (.inr (.inl ⟨h1, h2, by rw [if_neg h0, if_neg (by omega), if_pos h2]⟩))
   ·exact .inr (.inr (.inr ⟨h1, h2, by rw [if_neg h0, if_neg (by omega), if_neg h2]⟩))
  ·exact .inr (.inl ⟨h0, h1, by rw [if_neg h0, if_pos h1]⟩)

set_option maxRecDepth 100000 in
set_option maxHeartbeats 4000000 in
theorem open16_any (c : Cph) (vk va vt : Value) (ad t : List UInt8) (A : Array Value) (hA : A = (ciC vk c.n).toArray) (hn : c.n < 18446744073709551616) (hla : ad.length ≤ 3000000) (hlt : t.length ≤ 3000000) (w : World) (hk : Rd w vk c.key) (ha : Rd w va ad) (ht : Rd w vt t) :
  Calls Tryz.prog 34 #[.agg A, va, vt] w fun e w' => ∃ x, e = .returned (.tuple #[.agg (ciC vk (opC c ad t).1.n).toArray, x, .int .i64 (opC c ad t).2.2]) ∧ Rd w' x (opC c ad t).2.1 ∧ Below w.heap.size w w' := by
 have hcase := opC_cases c ad t
 obtain ⟨key, n⟩ := c
 obtain ⟨ak, ck, rfl, hk2, hk3, -, -⟩ := id hk
 unfold maxLen at hk3
 have HK : Hid (Rd w (.slice ak key.length ck) key) := hk
 have HA : Hid (Rd w va ad) := ha
 have HT : Hid (Rd w vt t) := ht
 have HLa : Hid _ := hla
 have HLt : Hid _ := hlt
 have hnI : (n : Int) < 18446744073709551616 := by have : n < 18446744073709551616 := hn; omega
 generalize opC ⟨key, n⟩ ad t = R at hcase ⊢
 replace hA : A = (ciC (.slice ak key.length ck) n).toArray := hA
 have HN : Hid (n < 18446744073709551616) := hn
 clear hk ha ht hla hlt hn
 go_enter Tryz.func34, Tryz.ntmps34
 go_wp2_with (refine wpList_box_blk rfl 29 _ rfl (ciC (.slice ak key.length ck) n) (by rw [← hA]; rfl) ?_)
 intro w1 r1 b1 s1
 go_wp2_with (refine wpList_alloc_blk rfl 29 rfl (ciC (.slice none 0 0) 0) (alloc_ci _) ?_)
 intro w2 rz b2 s2
 replace r1 := r1.kept b2
 have hbw := stepB b1 b2
 have n1 : w.heap.size < w1.heap.size := by have := s1.out; omega
 have c0 : w2.cell? ⟨w.heap.size, 0, none⟩ = some (.slice ak key.length ck) := r1.cell 0
 have c1 : w2.cell? ⟨w.heap.size, 1, none⟩ = some (.int .u64 (n : Int)) := r1.cell 1
 have z1 := b1.size
 clear b1 b2 s1 s2 hA
 rcases hcase with ⟨h1, rfl⟩ | ⟨h1, h2, rfl⟩ | ⟨h1, h2, rfl⟩ | ⟨h1, h2, h3⟩
 ·have e1 : ((key.length : Int) == 0) = true := by rw [show key.length = 0 from h1]; rfl
  clear h1
  go_wp2_with (first | refine wpList_load_part rfl 29 _ rfl rfl [] (ciC (.slice ak key.length ck) n) [] r1 (whole16 _) rfl Tryz.underlying29 rfl (info_ci _ _) ?_ | (refine wpList_store_part rfl 29 _ _ rfl rfl (ciC (.slice ak key.length ck) n) rfl [] (ciC (.slice none 0 0) 0) [] (ciC (.slice ak key.length ck) n) rz (whole16 _) (whole16 _) rfl rfl (info_ci (.slice none 0 0) 0) (ciC_all _ _ _ _) ?_; intro w7 r7 hw7))
  refine bodyPost_blk3 rfl rfl rfl rfl rfl r7 Tryz.underlying29 rfl (info_ci _ _) ?_
  exact ⟨_, rfl, Rd.kept HT.out (hw7.below _ _ z1 hbw), hw7.below _ _ z1 hbw⟩
 ·have h1' : key.length ≠ 0 := h1
  have h2' : key.length ≠ 32 := h2
  have e1 : ((key.length : Int) == 0) = false := by rw [beq_eq_false_iff_ne]; omega
  have e2 : ((key.length : Int) != 32) = true := by simp; omega
  clear h1 h2 h1' h2'
  go_wp2_with (first | refine wpList_load_part rfl 29 _ rfl rfl [] (ciC (.slice ak key.length ck) n) [] r1 (whole16 _) rfl Tryz.underlying29 rfl (info_ci _ _) ?_ | (refine wpList_store_part rfl 29 _ _ rfl rfl (ciC (.slice ak key.length ck) n) rfl [] (ciC (.slice none 0 0) 0) [] (ciC (.slice ak key.length ck) n) rz (whole16 _) (whole16 _) rfl rfl (info_ci (.slice none 0 0) 0) (ciC_all _ _ _ _) ?_; intro w7 r7 hw7))
  refine bodyPost_blk3 rfl rfl rfl rfl rfl r7 Tryz.underlying29 rfl (info_ci _ _) ?_
  exact ⟨_, rfl, Rd.nil _, hw7.below _ _ z1 hbw⟩
 ·have h1' : key.length = 32 := h1
  have h2' : n = 18446744073709551615 := h2
  have e1 : ((key.length : Int) == 0) = false := by rw [beq_eq_false_iff_ne]; omega
  have e2 : ((key.length : Int) != 32) = false := by simp; omega
  have e3 : ((n : Int) == 18446744073709551615) = true := by simp; omega
  clear h1 h2 h1' h2'
  go_wp2_with (first | refine wpList_load_part rfl 29 _ rfl rfl [] (ciC (.slice ak key.length ck) n) [] r1 (whole16 _) rfl Tryz.underlying29 rfl (info_ci _ _) ?_ | (refine wpList_store_part rfl 29 _ _ rfl rfl (ciC (.slice ak key.length ck) n) rfl [] (ciC (.slice none 0 0) 0) [] (ciC (.slice ak key.length ck) n) rz (whole16 _) (whole16 _) rfl rfl (info_ci (.slice none 0 0) 0) (ciC_all _ _ _ _) ?_; intro w7 r7 hw7))
  refine bodyPost_blk3 rfl rfl rfl rfl rfl r7 Tryz.underlying29 rfl (info_ci _ _) ?_
  exact ⟨_, rfl, Rd.nil _, hw7.below _ _ z1 hbw⟩
 ·have h1' : key.length = 32 := h1
  have h2' : n ≠ 18446744073709551615 := h2
  have e1 : ((key.length : Int) == 0) = false := by rw [beq_eq_false_iff_ne]; omega
  have e2 : ((key.length : Int) != 32) = false := by simp; omega
  have e3 : ((n : Int) == 18446744073709551615) = false := by simp; omega
  have HK32 : Hid (key.length = 32) := h1'
  have HR : Hid (R = if (opQ key (ncL n) ad t).2 = 0 then (⟨key, n + 1⟩, (opQ key (ncL n) ad t).1, 0) else (⟨key, n⟩, [], (opQ key (ncL n) ad t).2)) := h3
  obtain ⟨m, hm⟩ : ∃ m : Nat, m = n + 1 := ⟨_, rfl⟩
  have HMm : Hid (m = n + 1) := hm
  have e4 : IntKind.u64.wrap ((n : Int) + 1) = (m : Int) := by rw [IntKind.wrap_u64]; have := HN.out; omega
  have e5 : ((n : Int) + 1) % 18446744073709551616 = (m : Int) := by have := HN.out; omega
  have hbd := hbw.drew
  clear h1 h2 h1' h2' hm h3
  go_wp2_with fail
  refine wpG_begin (by kernel_rfl) ?_
  refine wpG_t (i := 0) (oi := ⟨some 27, .fieldAddr 29 (.tmp 3) 0, 0, "ref.go:46", #[], none⟩) (v := ?_) ?_ ?_
  rotate_left
  ·intro W hW; go_simp <;> with_reducible rfl
  try simp only [Act.put, putA, putB, putC]
  refine wpG_t (i := 1) (oi := ⟨some 28, .load 26 (.tmp 27), 26, "ref.go:46", #[⟨0, .data⟩], none⟩) (v := ?_) ?_ ?_
  rotate_left
  ·intro W hW; have hcW := cell16 c0 hW; go_simp <;> with_reducible rfl
  try simp only [Act.put, putA, putB, putC]
  refine wpG_t (i := 2) (oi := ⟨some 29, .fieldAddr 29 (.tmp 3) 1, 0, "ref.go:46", #[], none⟩) (v := ?_) ?_ ?_
  rotate_left
  ·intro W hW; go_simp <;> with_reducible rfl
  try simp only [Act.put, putA, putB, putC]
  refine wpG_t (i := 3) (oi := ⟨some 30, .load 27 (.tmp 29), 27, "ref.go:46", #[⟨2, .data⟩], none⟩) (v := ?_) ?_ ?_
  rotate_left
  ·intro W hW; have hcW := cell16 c1 hW; go_simp <;> with_reducible rfl
  try simp only [Act.put, putA, putB, putC]
  refine wpG_t (i := 5) (oi := ⟨some 32, .move (.tmp 1), 26, "ref.go:46", #[], none⟩) (v := ?_) ?_ ?_
  rotate_left
  ·intro W hW; go_simp <;> with_reducible rfl
  try simp only [Act.put, putA, putB, putC]
  refine wpG_t (i := 6) (oi := ⟨some 33, .move (.tmp 2), 26, "ref.go:46", #[], none⟩) (v := ?_) ?_ ?_
  rotate_left
  ·intro W hW; go_simp <;> with_reducible rfl
  try simp only [Act.put, putA, putB, putC]
  refine wpG_do (i := 4) (o := ⟨some 31, .call { callee := .value (.func 46), args := #[.tmp 30], argTypes := #[27] }, 26, "ref.go:46", #[⟨3, .data⟩], none⟩) (by kernel_rfl) rfl (by rfl) fun K hK => ?_
  go_simp
  refine (nonce16_any n HN.out _).mono ?_
  rintro e w3 ⟨v3, rfl, hN3⟩
  obtain ⟨a3, k3, rfl, -⟩ := id hN3.rd
  refine hK.out _ _ hN3.2 ?_
  clear hK K
  try simp only [Act.put, putA, putB, putC]
  refine wpG_do (i := 7) (o := ⟨some 34, .call { callee := .value (.func 48), args := #[.tmp 28, .tmp 31, .tmp 32, .tmp 33], argTypes := #[26, 26, 26, 26] }, 38, "ref.go:46", #[⟨1, .data⟩, ⟨4, .data⟩, ⟨5, .data⟩, ⟨6, .data⟩, ⟨4, .chain⟩], none⟩) (by kernel_rfl) rfl (by rfl) fun K hK => ?_
  go_simp
  refine (openR_q _ _ _ _ key (ncL n) ad t HK32.out (ncL_length n) HLa.out HLt.out _ (Rd.kept HK.out (stepB hbd hN3.2)) hN3.rd (Rd.kept HA.out (stepB hbd hN3.2)) (Rd.kept HT.out (stepB hbd hN3.2))).mono ?_
  rintro e w4 ⟨v4, rfl, hN4⟩
  refine hK.out _ _ hN4.2 ?_
  clear hK K
  try simp only [Act.put, putA, putB, putC]
  refine wpG_t (i := 8) (oi := ⟨some 26, .move (.tmp 34), 38, "ref.go:46", #[⟨7, .data⟩], none⟩) (v := ?_) ?_ ?_
  rotate_left
  ·intro W hW; go_simp <;> with_reducible rfl
  try simp only [Act.put, putA, putB, putC]
  refine wpG_t (i := 9) (oi := ⟨some 35, .extract (.tmp 26) 0, 26, "ref.go:46", #[⟨8, .data⟩], none⟩) (v := ?_) ?_ ?_
  rotate_left
  ·intro W hW; go_simp <;> with_reducible rfl
  try simp only [Act.put, putA, putB, putC]
  refine wpG_t (i := 10) (oi := ⟨some 36, .extract (.tmp 26) 1, 35, "ref.go:46", #[⟨8, .data⟩, ⟨11, .gcOnly .lateStores⟩], none⟩) (v := ?_) ?_ ?_
  rotate_left
  ·intro W hW; go_simp <;> with_reducible rfl
  try simp only [Act.put, putA, putB, putC]
  refine wpG_t (i := 11) (oi := ⟨some 9, .assign (.tmp 35), 26, "ref.go:46", #[⟨9, .data⟩, ⟨7, .chain⟩, ⟨0, .phase⟩, ⟨1, .phase⟩, ⟨2, .phase⟩, ⟨3, .phase⟩, ⟨4, .phase⟩, ⟨5, .phase⟩, ⟨6, .phase⟩, ⟨7, .phase⟩, ⟨8, .phase⟩, ⟨9, .phase⟩, ⟨10, .textOnly .lateStores⟩], none⟩) (v := ?_) ?_ ?_
  rotate_left
  ·intro W hW; go_simp <;> with_reducible rfl
  try simp only [Act.put, putA, putB, putC]
  refine wpG_t (i := 12) (oi := ⟨some 10, .assign (.tmp 36), 35, "ref.go:46", #[⟨10, .data⟩, ⟨11, .chain⟩, ⟨0, .phase⟩, ⟨1, .phase⟩, ⟨2, .phase⟩, ⟨3, .phase⟩, ⟨4, .phase⟩, ⟨5, .phase⟩, ⟨6, .phase⟩, ⟨7, .phase⟩, ⟨8, .phase⟩, ⟨9, .phase⟩, ⟨10, .phase⟩, ⟨11, .phase⟩], none⟩) (v := ?_) ?_ ?_
  rotate_left
  ·intro W hW; go_simp <;> with_reducible rfl
  try simp only [Act.put, putA, putB, putC]
  refine wpG_done (by kernel_rfl) ?_
  have b4 := stepB hN3.2 hN4.2
  have r4 := (r1.drew.kept b4)
  have rz4 := (rz.drew.kept b4)
  have c0' : w4.cell? ⟨w.heap.size, 0, none⟩ = some (.slice ak key.length ck) := r4.cell 0
  have c1' : w4.cell? ⟨w.heap.size, 1, none⟩ = some (.int .u64 (n : Int)) := r4.cell 1
  have hR := HR.out
  obtain ⟨B, hB⟩ : ∃ B, B = (opQ key (ncL n) ad t).1 := ⟨_, rfl⟩
  obtain ⟨q, hq⟩ : ∃ q, q = (opQ key (ncL n) ad t).2 := ⟨_, rfl⟩
  rw [← hB] at hN4
  rw [← hB, ← hq] at hR
  rw [← hq]
  have HX : Hid (w4.ownsRow w3.heap.size 5 1 v4 B.length (B.map bv)) := hN4.1
  have HZ3 : Hid (w1.heap.size < w3.heap.size) := Nat.lt_of_lt_of_le rz.lt hN3.2.size
  have HB4 : Hid _ := stepB hbd b4
  clear hN3 hN4 b4 c0 c1 r1 rz hB hq HR
  by_cases hz : q = 0
  ·have e6 : (q != 0) = false := by rw [hz]; rfl
   have HR : Hid (R = (⟨key, m⟩, B, q)) := (by rw [hR, if_pos hz, HMm.out, hz] : R = (⟨key, m⟩, B, q))
   have HZ : Hid (q = 0) := hz
   clear hz hR
   go_wp2_with (first | refine wpList_buildB rfl 29 #[(0, .tmp 42), (1, .tmp 45)] rfl _ (by go_simp; rfl) _ (build_ci _ _ _ _ _) ?_ | (refine wpList_store_part rfl 29 _ _ rfl rfl (ciC (.slice ak key.length ck) m) rfl [] (ciC (.slice none 0 0) 0) [] (ciC (.slice ak key.length ck) m) rz4 (whole16 _) (whole16 _) rfl rfl (info_ci (.slice none 0 0) 0) (ciC_all _ _ _ _) ?_; intro w7 r7 hw7))
   refine bodyPost_blk3 rfl rfl rfl rfl rfl r7 Tryz.underlying29 rfl (info_ci _ _) ?_
   have hR := HR.out
   subst hR
   refine ⟨v4, rfl, ?_, hw7.below _ _ z1 HB4.out⟩
   exact Rd.of_row (own_chg HX.out (Chg.of_wrote hw7) (fun g e1 e2 => by have := (HX.out.lt g e1).1; have := HZ3.out; omega))
  ·have e6 : (q != 0) = true := by simpa using hz
   have HR : Hid (R = (⟨key, n⟩, [], q)) := (by rw [hR, if_neg hz] : R = (⟨key, n⟩, [], q))
   clear hz hR
   go_wp2_with (first | refine wpList_load_part rfl 29 _ rfl rfl [] (ciC (.slice ak key.length ck) n) [] r4 (whole16 _) rfl Tryz.underlying29 rfl (info_ci _ _) ?_ | (refine wpList_store_part rfl 29 _ _ rfl rfl (ciC (.slice ak key.length ck) n) rfl [] (ciC (.slice none 0 0) 0) [] (ciC (.slice ak key.length ck) n) rz4 (whole16 _) (whole16 _) rfl rfl (info_ci (.slice none 0 0) 0) (ciC_all _ _ _ _) ?_; intro w7 r7 hw7))
   refine bodyPost_blk3 rfl rfl rfl rfl rfl r7 Tryz.underlying29 rfl (info_ci _ _) ?_
   have hR := HR.out
   subst hR
   exact ⟨_, rfl, Rd.nil _, hw7.below _ _ z1 HB4.out⟩
set_option maxHeartbeats 400000 in
theorem sum256R_any (vb : Value) (l : List UInt8) (hl : l.length ≤ 1000000) (w : World) (hr : Rd w vb l) :
  Calls Tryz.prog 24 #[vb] w fun e w' => ∃ v, e = .returned v ∧ Rd w' v (otL (abF 136 6 l) 136 32) ∧ Below w.heap.size w w' := by
 go_enter Tryz.func24, Tryz.ntmps24
 go_wp2_with fail
 refine (absorbR_any 136 6 6 rfl _ l hl _ hr).mono ?_
 rintro e w2 ⟨v2, rfl, hR2, hB2⟩
 go_wp2_with fail
 refine (out_any _ _ (abF_lt 136 6 l) 136 32 (by omega) (by omega) (by omega) _ hR2).mono ?_
 rintro e w3 ⟨v3, rfl, hR3, hB3⟩
 have hb := stepB hB2 hB3
 clear hR2 hB2 hB3
 go_wp2
 go_ret
 exact ⟨_, rfl, hR3, hb⟩
set_option maxRecDepth 100000 in
set_option maxHeartbeats 4000000 in
theorem macR_any (vk vb : Value) (k b : List UInt8) (hk : k.length ≤ 100000) (hbl : b.length ≤ 100000) (w : World) (hrk : Rd w vk k) (hrb : Rd w vb b) :
  Calls Tryz.prog 41 #[vk, vb] w fun e w' => ∃ v, e = .returned v ∧ Rd w' v (mcF k b) ∧ Below w.heap.size w w' := by
 have HB : Hid (Rd w vb b) := hrb
 obtain ⟨ak, capk, rfl, hcapk, hmaxk, hnilk, -⟩ := id hrk
 have hK1 := kyS_length k
 have hK2 := kyL_length k
 have HK1 : Hid ((kyS k).length ≤ 136) := hK1
 have HK2 : Hid ((kyL k).length = 136) := hK2
 clear hrb hK1 hK2
 have hO0 : Own 5 w [(.slice none 0 0, [])] w := (Own.start 5 w).nil
 go_enter Tryz.func41, Tryz.ntmps41
 by_cases hlong : 136 < k.length
 case' pos =>
  have HS : Hid (s2L k = kyS k) := by show _ = _; unfold kyS; rw [if_pos hlong]
  have hd : decide ((136 : Int) < (k.length : Int)) = true := decide_eq_true (by omega)
  have hlI : (136 : Int) < (k.length : Int) := by omega
  go_wp2_with fail
  refine (sum256R_any _ k (by omega) _ hrk).mono ?_
  rintro e w1 ⟨v1, rfl, hR1, hB1⟩
  have hO1 := hO0.kept hB1
  go_wp2_with (at_builtin; go_must (refine wpList_append_Own (w0 := w) rfl _ _ 26 rfl Tryz.underlying26 infoU8 _ _ rfl hO1 _ _ rfl hR1 (by rw [otL_length]; simp) ?_))
  intro v2 w2 hO2
  have hO3 : Own 5 w [(v2, kyS k)] w2 := by
   rw [← HS.out]
   exact hO2
  clear hO2 hO1 hO0 hR1 hB1 hrk HS hd hlI hlong
 case' neg =>
  have HS : Hid (k = kyS k) := by show _ = _; unfold kyS; rw [if_neg hlong]
  have hd : decide ((136 : Int) < (k.length : Int)) = false := decide_eq_false (by omega)
  have hlI : (k.length : Int) ≤ 136 := by omega
  go_wp2_with (at_builtin; go_must (refine wpList_append_Own (w0 := w) rfl _ _ 26 rfl Tryz.underlying26 infoU8 _ _ rfl hO0 _ _ rfl hrk (by simp; omega) ?_))
  intro v2 w2 hO2
  have hO3 : Own 5 w [(v2, kyS k)] w2 := by
   rw [← HS.out]
   exact hO2
  clear hO2 hO0 hrk HS hd hlI hlong
 all_goals
  go_wp2
  go_loopw [5] (fun v wr => ∃ z : Nat, (kyS k).length + z ≤ 136 ∧ Own 5 w [(v, kyS k ++ List.replicate z 0)] wr) (fun v _ => 136 - sLen v)
  case atStart => exact ⟨0, by have := HK1.out; omega, by simpa using hO3⟩
  case round =>
   obtain ⟨z, hz, hO4⟩ := hrel
   clear hO3
   obtain ⟨a, cap, rfl, hcap, hmax, hnil, -⟩ := hO4.rd (List.mem_cons_self ..)
   have el : (kyS k ++ List.replicate z (0 : UInt8)).length = (kyS k).length + z := by simp
   rw [el] at hcap hO4 ⊢
   clear el
   obtain ⟨L, hL⟩ : ∃ L : Nat, L = (kyS k).length + z := ⟨_, rfl⟩
   have HL : Hid (L = (kyS k).length + z) := hL
   rw [← hL] at hz hcap hO4 ⊢
   clear hL
   by_cases hlt : L < 136
   ·have hd : decide ((L : Int) < 136) = true := decide_eq_true (by omega)
    have hLI : (L : Int) < 136 := by omega
    have hlen : (kyS k ++ List.replicate z (0 : UInt8)).length + [(0 : UInt8)].length ≤ 140737488355328 := by have := HL.out; simp; omega
    have hL1 : Rd (wr.alloc (.cells #[.int .u8 0] 5)) (.slice (some ⟨wr.heap.size, 0, none⟩) 1 1) [0] := Rd.lit1 0 rfl
    go_wp2_with (at_builtin; go_must (refine wpList_append_Own (w0 := w) rfl _ _ 26 rfl Tryz.underlying26 infoU8 _ _ rfl (hO4.kept (growB _)) _ _ rfl hL1 hlen ?_))
    intro v5 w5 hO5
    have hO6 : Own 5 w [(v5, kyS k ++ List.replicate (z + 1) 0)] w5 := by
     rw [List.replicate_succ']
     first | exact hO5 | (rw [List.append_assoc] at hO5; exact hO5) | (rw [← List.append_assoc]; exact hO5)
    clear hO5 hO4 hL1
    obtain ⟨a6, cap6, rfl, -⟩ := hO6.rd (List.mem_cons_self ..)
    have el : (kyS k ++ List.replicate (z + 1) (0 : UInt8)).length = L + 1 := by have := HL.out; simp; omega
    rw [el] at hO6 ⊢
    clear el
    go_wp2
    go_roundw
    case rel => exact ⟨z + 1, by have := HL.out; omega, hO6⟩
    case measure => simp [sLen]; omega
   ·have hd : decide ((L : Int) < 136) = false := decide_eq_false (by omega)
    have hLI : (136 : Int) ≤ (L : Int) := by omega
    have hLe : L = 136 := by omega
    have hO7 : Own 5 w [(.slice a L cap, kyL k)] wr := by
     have e : kyS k ++ List.replicate z 0 = kyL k := by
      unfold kyL
      rw [show 136 - (kyS k).length = z by have := HL.out; omega]
     rw [← e]
     exact hO4
    have hO8 : Own 5 w [(.slice none 0 0, []), (.slice none 0 0, []), (.slice a L cap, kyL k)] wr := hO7.nil.nil
    clear hO4 hO7 hLe hlt hz HL
    have hL136 : (136 : Int) ≤ L := hLI
    go_wp2
    go_loopw [6, 7, 8] (fun vi vo i wr => ∃ j : Nat, j ≤ 136 ∧ i = .int .i64 j ∧ Own 5 w [(vi, mxP (kyL k) 54 j), (vo, mxP (kyL k) 92 j), (.slice a L cap, kyL k)] wr) (fun _ _ i _ => 136 - (intOf i).toNat)
    case atStart => exact ⟨0, by omega, rfl, hO8⟩
    case round =>
     obtain ⟨j, hj, rfl, hO⟩ := hrel
     clear hO8
     by_cases hlt : j < 136
     ·have hd2 : decide ((j : Int) < 136) = true := decide_eq_true (by omega)
      have hjI : (j : Int) < 136 := by omega
      have hjL : (j : Int) < (L : Int) := by omega
      have hRk := hO.rd (v := .slice a L cap) (l := kyL k) (by simp)
      obtain ⟨bb, off, cc, ev, -, cp, -⟩ := hRk.cellAt (i := j) (by have := HK2.out; omega)
      simp only [Value.slice.injEq] at ev
      obtain ⟨rfl, -, rfl⟩ := ev
      have Hi : Hid _ := mxP_next (kyL k) 54 j
      have Ho : Hid _ := mxP_next (kyL k) 92 j
      have x1 := byte_xor ((kyL k).getD j 0) 54
      have x2 := byte_xor ((kyL k).getD j 0) 92
      rw [show (((54 : UInt8).toNat : Nat) : Int) = 54 from rfl] at x1
      rw [show (((92 : UInt8).toNat : Nat) : Int) = 92 from rfl] at x2
      have l1 : (mxP (kyL k) 54 j).length + [(kyL k).getD j 0 ^^^ 54].length ≤ 140737488355328 := by rw [mxP_length]; simp; omega
      have l2 : (mxP (kyL k) 92 j).length + [(kyL k).getD j 0 ^^^ 92].length ≤ 140737488355328 := by rw [mxP_length]; simp; omega
      generalize hq : (kyL k).getD j 0 = q at cp Hi Ho x1 x2 l1 l2
      have HQ : Hid ((kyL k).getD j 0 = q) := hq
      clear hq hRk
      have r1 : Rd (wr.alloc (.cells #[.int .u8 ((q ^^^ 54).toNat : Int)] 5)) (.slice (some ⟨wr.heap.size, 0, none⟩) 1 1) [q ^^^ 54] := Rd.lit1 _ rfl
      go_wp2_with (at_builtin; go_must (refine wpList_append_Own (w0 := w) rfl _ _ 26 rfl Tryz.underlying26 infoU8 _ _ rfl (hO.kept (growB _)) _ _ rfl r1 l1 ?_))
      intro v5 w5 hO5
      rw [Hi.out] at hO5
      have hO6 : Own 5 w [(u7, mxP (kyL k) 92 j), (v5, mxP (kyL k) 54 (j + 1)), (.slice (some ⟨bb, off, none⟩) L cap, kyL k)] w5 := hO5.perm (List.Perm.swap ..)
      have hRk := hO6.rd (v := .slice (some ⟨bb, off, none⟩) L cap) (l := kyL k) (by simp)
      obtain ⟨bb2, off2, cc2, ev, -, cp2, -⟩ := hRk.cellAt (i := j) (by have := HK2.out; omega)
      simp only [Value.slice.injEq, Option.some.injEq, Addr.mk.injEq, and_true] at ev
      obtain ⟨⟨rfl, rfl⟩, -, rfl⟩ := ev
      rw [HQ.out] at cp2
      have r2 : Rd (w5.alloc (.cells #[.int .u8 ((q ^^^ 92).toNat : Int)] 5)) (.slice (some ⟨w5.heap.size, 0, none⟩) 1 1) [q ^^^ 92] := Rd.lit1 _ rfl
      clear hO5 hO hRk cp r1 Hi
      go_wp2_with (at_builtin; go_must (refine wpList_append_Own (w0 := w) rfl _ _ 26 rfl Tryz.underlying26 infoU8 _ _ rfl (hO6.kept (growB _)) _ _ rfl r2 l2 ?_))
      intro v7 w7 hO7
      rw [Ho.out] at hO7
      have hO8 : Own 5 w [(v5, mxP (kyL k) 54 (j + 1)), (v7, mxP (kyL k) 92 (j + 1)), (.slice (some ⟨bb, off, none⟩) L cap, kyL k)] w7 := hO7.perm (List.Perm.swap ..)
      clear hO7 hO6 cp2 r2 Ho
      go_wp2
      go_roundw
      case rel => exact ⟨j + 1, by omega, by go_num, hO8⟩
      case measure => simp [intOf]; omega
     ·have hje : j = 136 := by omega
      have hd2 : decide ((j : Int) < 136) = false := decide_eq_false (by omega)
      have hjI : (136 : Int) ≤ (j : Int) := by omega
      rw [hje] at hO
      have hrb := HB.out.kept hO.below
      have m1 := mxP_length (kyL k) 54 136
      have m2 := mxP_length (kyL k) 92 136
      have hl1 : (mxP (kyL k) 54 136).length + b.length ≤ 140737488355328 := by omega
      have HM1 : Hid _ := m1
      have HM2 : Hid _ := m2
      clear hje m1 m2
      go_wp2_with (at_builtin; go_must (refine wpList_append_Own (w0 := w) rfl _ _ 26 rfl Tryz.underlying26 infoU8 _ _ rfl hO _ _ rfl hrb hl1 ?_))
      intro v9 w9 hO9
      have hR9 := hO9.rd (List.mem_cons_self ..)
      clear hO hrb
      go_wp2_with fail
      refine (sum256R_any _ _ (by have := HM1.out; simp; omega) _ hR9).mono ?_
      rintro e w10 ⟨v10, rfl, hR10, hB10⟩
      have hO10 := ((hO9.kept hB10).perm (List.Perm.swap ..)).perm (List.Perm.refl _)
      have hl2 : (mxP (kyL k) 92 136).length + (otL (abF 136 6 (mxP (kyL k) 54 136 ++ b)) 136 32).length ≤ 140737488355328 := by have := HM2.out; rw [otL_length]; omega
      clear hO9 hR9
      go_wp2_with (at_builtin; go_must (refine wpList_append_Own (w0 := w) rfl _ _ 26 rfl Tryz.underlying26 infoU8 _ _ rfl hO10 _ _ rfl hR10 hl2 ?_))
      intro v11 w11 hO11
      have hR11 := hO11.rd (List.mem_cons_self ..)
      have hb11 := hO11.below
      clear hO10 hO11 hR10
      go_wp2_with fail
      refine (sum256R_any _ _ (by have := HM2.out; simp [otL_length]; omega) _ hR11).mono ?_
      rintro e w12 ⟨v12, rfl, hR12, hB12⟩
      go_wp2
      go_ret
      exact ⟨_, rfl, hR12, stepB hb11 hB12⟩
set_option maxRecDepth 100000 in
set_option maxHeartbeats 4000000 in
theorem threeR_any (vk vb : Value) (k b : List UInt8) (hk : k.length ≤ 100000) (hbl : b.length ≤ 100000) (w : World) (hrk : Rd w vk k) (hrb : Rd w vb b) :
  Calls Tryz.prog 26 #[vk, vb] w fun e w' => ∃ v1 v2 v3, e = .returned (.tuple #[v1, v2, v3]) ∧ Rd w' v1 (k1F k b) ∧ Rd w' v2 (k2F k b) ∧ Rd w' v3 (k3F k b) ∧ Below w.heap.size w w' := by
 have hm := mcF_length k b
 have h1 : (k1F k b).length = 32 := mcF_length _ _
 have h2 : (k2F k b).length = 32 := mcF_length _ _
 go_enter Tryz.func26, Tryz.ntmps26
 go_wp2_with fail
 refine (macR_any _ _ k b hk hbl _ hrk hrb).mono ?_
 rintro e w1 ⟨vt, rfl, hT1, hB1⟩
 have r1 : Rd (w1.alloc (.cells #[.int .u8 1] 5)) (.slice (some ⟨w1.heap.size, 0, none⟩) 1 1) [1] := Rd.lit1 1 rfl
 have hT2 := hT1.kept (growB (.cells #[.int .u8 1] 5))
 have hb1 := stepB hB1 (growB (.cells #[.int .u8 1] 5))
 go_wp2_with fail
 refine (macR_any _ _ (mcF k b) [1] (by omega) (by simp) _ hT2 r1).mono ?_
 rintro e w2 ⟨va, rfl, hA2, hB2⟩
 have hT3 := hT2.kept hB2
 have hb2 := stepB hb1 hB2
 have hO2 : Own 5 w2 [(.slice none 0 0, [])] w2 := (Own.start 5 w2).nil
 have hA2' : Rd w2 va (k1F k b) := hA2
 clear r1 hT1 hT2 hB1 hB2 hb1 hA2
 go_wp2_with (at_builtin; go_must (refine wpList_append_Own (w0 := w2) rfl _ _ 26 rfl Tryz.underlying26 infoU8 _ _ rfl hO2 _ _ rfl hA2' (by simp; omega) ?_))
 intro x3 w3 hO3
 have r3 : Rd (w3.alloc (.cells #[.int .u8 2] 5)) (.slice (some ⟨w3.heap.size, 0, none⟩) 1 1) [2] := Rd.lit1 2 rfl
 have hO4 := hO3.kept (growB (.cells #[.int .u8 2] 5))
 have hlen : (k1F k b).length + [(2 : UInt8)].length ≤ 140737488355328 := by simp; omega
 clear hO2 hO3
 go_wp2_with (at_builtin; go_must (refine wpList_append_Own (w0 := w2) rfl _ _ 26 rfl Tryz.underlying26 infoU8 _ _ rfl hO4 _ _ rfl r3 hlen ?_))
 intro x5 w5 hO5
 have hT5 := hT3.kept hO5.below
 have hA5 := hA2'.kept hO5.below
 have hX5 := hO5.rd (List.mem_cons_self ..)
 have hb5 := stepB hb2 hO5.below
 clear hO4 r3 hlen hO5 hT3 hA2' hb2
 go_wp2_with fail
 refine (macR_any _ _ (mcF k b) (k1F k b ++ [2]) (by omega) (by simp; omega) _ hT5 hX5).mono ?_
 rintro e w6 ⟨vq, rfl, hQ6, hB6⟩
 have hQ6' : Rd w6 vq (k2F k b) := hQ6
 have hT6 := hT5.kept hB6
 have hA6 := hA5.kept hB6
 have hb6 := stepB hb5 hB6
 have hO6 : Own 5 w6 [(.slice none 0 0, [])] w6 := (Own.start 5 w6).nil
 clear hQ6 hT5 hA5 hX5 hb5 hB6
 go_wp2_with (at_builtin; go_must (refine wpList_append_Own (w0 := w6) rfl _ _ 26 rfl Tryz.underlying26 infoU8 _ _ rfl hO6 _ _ rfl hQ6' (by simp; omega) ?_))
 intro x7 w7 hO7
 have r7 : Rd (w7.alloc (.cells #[.int .u8 3] 5)) (.slice (some ⟨w7.heap.size, 0, none⟩) 1 1) [3] := Rd.lit1 3 rfl
 have hO8 := hO7.kept (growB (.cells #[.int .u8 3] 5))
 have hlen : (k2F k b).length + [(3 : UInt8)].length ≤ 140737488355328 := by simp; omega
 clear hO6 hO7
 go_wp2_with (at_builtin; go_must (refine wpList_append_Own (w0 := w6) rfl _ _ 26 rfl Tryz.underlying26 infoU8 _ _ rfl hO8 _ _ rfl r7 hlen ?_))
 intro x9 w9 hO9
 have hT9 := hT6.kept hO9.below
 have hA9 := hA6.kept hO9.below
 have hQ9 := hQ6'.kept hO9.below
 have hX9 := hO9.rd (List.mem_cons_self ..)
 have hb9 := stepB hb6 hO9.below
 clear hO8 r7 hlen hO9 hT6 hA6 hQ6' hb6
 go_wp2_with fail
 refine (macR_any _ _ (mcF k b) (k2F k b ++ [3]) (by omega) (by simp; omega) _ hT9 hX9).mono ?_
 rintro e w10 ⟨vz, rfl, hZ, hB10⟩
 have hb10 := stepB hb9 hB10
 have hA10 := hA9.kept hB10
 have hQ10 := hQ9.kept hB10
 go_wp2
 go_ret3
 exact ⟨_, _, _, rfl, hA10, hQ10, hZ, hb10⟩
def saC (vc vh vk : Value) (n : Nat) : List Value := [vc, vh, vk, .int .u64 (n : Int)]
theorem alloc_sa (w : World) : (Instr.alloc 31 true (.tuple #[])).run Tryz.prog w = .ok (.pointer (some ⟨w.heap.size, 0, none⟩)) (w.alloc (.cells (saC (.slice none 0 0) (.slice none 0 0) (.slice none 0 0) 0).toArray 31)) := by kernel_rfl
theorem info_sa (vc vh vk : Value) (n : Nat) : (Tryz.prog.info? 31).map (·.size) = some (saC vc vh vk n).length := by
 show _ = some 4
 kernel_rfl
theorem saC_all (a1 a2 a3 : Option Addr) (l1 c1 l2 c2 l3 c3 n : Nat) : (saC (.slice a1 l1 c1) (.slice a2 l2 c2) (.slice a3 l3 c3) n).toArray.all (·.oneCell') = true := by kernel_rfl
theorem build_sa (a1 a2 a3 : Option Addr) (l1 c1 l2 c2 l3 c3 : Nat) (x : Int) (w : World) : (Instr.build 31 #[(0, .slice a1 l1 c1), (1, .slice a2 l2 c2), (2, .agg #[.slice a3 l3 c3, .int .u64 x])]).run Tryz.prog w = .ok (.agg #[.slice a1 l1 c1, .slice a2 l2 c2, .slice a3 l3 c3, .int .u64 x]) w := by kernel_rfl
theorem partS (vc vh vk : Value) (n : Nat) : saC vc vh vk n = [vc, vh] ++ ciC vk n ++ [] := rfl

theorem Rd.far16 {w w' : World} {v : Value} {l : List UInt8} {g : Nat} {ty : TypeId} {cs : List Value} (h : Rd w v l) (hb : BlkAt g ty cs w) (hn : ∀ (j : Nat) (x : Int), cs[j]? ≠ some (.int .u8 x)) (hw : Wrote g w w') : Rd w' v l := by
 obtain ⟨a, c, e1, h2, h3, h4, h5⟩ := h
 refine ⟨a, c, e1, h2, h3, h4, h5.imp id ?_⟩
 rintro ⟨b, off, e2, hc⟩
 refine ⟨b, off, e2, fun i hi => ?_⟩
 have h6 := hc i hi
 have hne : b ≠ g := by
  rintro rfl
  rw [hb.cell] at h6
  exact hn _ _ h6
 rw [World.cell?_of_block (w := w) (hw.other b hne)]
 exact h6
theorem saC_no8 (a1 a2 a3 : Option Addr) (l1 c1 l2 c2 l3 c3 n j : Nat) (x : Int) : (saC (.slice a1 l1 c1) (.slice a2 l2 c2) (.slice a3 l3 c3) n)[j]? ≠ some (.int .u8 x) := by
 match j with
 | 0 => simp [saC]
 | 1 => simp [saC]
 | 2 => simp [saC]
 | 3 => simp [saC]
 | j + 4 => simp [saC]
theorem ciC_no8 (a : Option Addr) (l c n j : Nat) (x : Int) : (ciC (.slice a l c) n)[j]? ≠ some (.int .u8 x) := by
 match j with
 | 0 => simp [ciC]
 | 1 => simp [ciC]
 | j + 2 => simp [ciC]

set_option maxRecDepth 100000 in
set_option maxHeartbeats 4000000 in
theorem mixhash16_any (s : Sta) (vc vh vk vb : Value) (b : List UInt8) (A : Array Value) (hA : A = (saC vc vh vk s.c.n).toArray) (hl : s.h.length + b.length ≤ 1000000) (w : World) (hc : Rd w vc s.ck) (hh : Rd w vh s.h) (hk : Rd w vk s.c.key) (hb : Rd w vb b) :
  Calls Tryz.prog 11 #[.agg A, vb] w fun e w' => ∃ x, e = .returned (.agg (saC vc x vk s.c.n).toArray) ∧ Rd w' x (mhS s b).h ∧ Below w.heap.size w w' := by
 obtain ⟨ck, h, ⟨key, n⟩⟩ := s
 obtain ⟨ac, cc, rfl, -⟩ := id hc
 obtain ⟨ah, ch, rfl, -⟩ := id hh
 obtain ⟨ak, cq, rfl, -⟩ := id hk
 have HH : Hid (Rd w (.slice ah h.length ch) h) := hh
 have HBb : Hid (Rd w vb b) := hb
 have HL : Hid (h.length + b.length ≤ 1000000) := hl
 generalize ck.length = lc at hA ⊢
 generalize key.length = lk at hA ⊢
 obtain ⟨O, hO⟩ : ∃ O, O = (mhS ⟨ck, h, ⟨key, n⟩⟩ b).h := ⟨_, rfl⟩
 have HO : Hid (O = otL (abF 136 6 (h ++ b)) 136 32) := hO
 rw [← hO]
 replace hA : A = (saC (.slice ac lc cc) (.slice ah h.length ch) (.slice ak lk cq) n).toArray := hA
 show Calls _ _ _ _ fun e w' => ∃ x, e = .returned (.agg (saC (.slice ac lc cc) x (.slice ak lk cq) n).toArray) ∧ Rd w' x O ∧ Below w.heap.size w w'
 clear hc hh hk hb hl hO
 go_enter Tryz.func11, Tryz.ntmps11
 go_wp2_with (refine wpList_box_blk rfl 31 _ rfl (saC (.slice ac lc cc) (.slice ah h.length ch) (.slice ak lk cq) n) (by rw [← hA]; rfl) ?_)
 intro w1 r1 b1 s1
 go_wp2_with (refine wpList_alloc_blk rfl 31 rfl (saC (.slice none 0 0) (.slice none 0 0) (.slice none 0 0) 0) (alloc_sa _) ?_)
 intro w2 rz b2 s2
 replace r1 := r1.kept b2
 have hbw := stepB b1 b2
 have n1 : w.heap.size < w1.heap.size := by have := s1.out; omega
 have c0 : w2.cell? ⟨w.heap.size, 0, none⟩ = some (.slice ac lc cc) := r1.cell 0
 have c1 : w2.cell? ⟨w.heap.size, 1, none⟩ = some (.slice ah h.length ch) := r1.cell 1
 have z1 := b1.size
 have hbd := hbw.drew
 clear b1 b2 s1 s2 hA
 go_wp2_with fail
 refine wpE_begin 10 (by kernel_rfl) ?_
 refine wpE_t (i := 0) (oi := ⟨some 5, .fieldAddr 31 (.tmp 2) 0, 0, "ref.go:84", #[], none⟩) (v := ?_) ?_ ?_
 rotate_left
 ·intro W hW; go_simp <;> with_reducible rfl
 try simp only [Act.put, putA, putB, putC]
 refine wpE_t (i := 1) (oi := ⟨some 6, .load 26 (.tmp 5), 26, "ref.go:84", #[⟨0, .data⟩], none⟩) (v := ?_) ?_ ?_
 rotate_left
 ·intro W hW; have hcW := cell16 c0 hW; go_simp <;> with_reducible rfl
 try simp only [Act.put, putA, putB, putC]
 refine wpE_t (i := 2) (oi := ⟨some 7, .fieldAddr 31 (.tmp 2) 1, 0, "ref.go:84", #[], none⟩) (v := ?_) ?_ ?_
 rotate_left
 ·intro W hW; go_simp <;> with_reducible rfl
 try simp only [Act.put, putA, putB, putC]
 refine wpE_t (i := 3) (oi := ⟨some 8, .load 26 (.tmp 7), 26, "ref.go:84", #[⟨2, .data⟩], none⟩) (v := ?_) ?_ ?_
 rotate_left
 ·intro W hW; have hcW := cell16 c1 hW; go_simp <;> with_reducible rfl
 try simp only [Act.put, putA, putB, putC]
 refine wpE_t (i := 4) (oi := ⟨some 9, .move (.tmp 1), 26, "ref.go:84", #[], none⟩) (v := ?_) ?_ ?_
 rotate_left
 ·intro W hW; go_simp <;> with_reducible rfl
 try simp only [Act.put, putA, putB, putC]
 refine wpE_t (i := 7) (oi := ⟨some 12, .fieldAddr 31 (.tmp 2) 2, 0, "ref.go:84", #[], none⟩) (v := ?_) ?_ ?_
 rotate_left
 ·intro W hW; go_simp <;> with_reducible rfl
 try simp only [Act.put, putA, putB, putC]
 refine wpE_t (i := 8) (oi := ⟨some 13, .load 29 (.tmp 12), 29, "ref.go:84", #[⟨7, .data⟩], none⟩) (v := ?_) ?_ ?_
 rotate_left
 ·intro W hW; refine Eq.trans (exec_load_part 29 _ (by rfl) (by rfl) [.slice ac lc cc, .slice ah h.length ch] (ciC (.slice ak lk cq) n) [] r1.drew hW (partS _ _ _ _) rfl Tryz.underlying29 rfl (info_ci _ _)) ?_; with_reducible rfl
 try simp only [Act.put, putA, putB, putC]
 refine wpE_do (i := 5) (o := ⟨some 10, .call { callee := .value (.func 29), args := #[.tmp 8, .tmp 9], argTypes := #[26, 26] }, 26, "ref.go:84", #[⟨3, .data⟩, ⟨4, .data⟩], none⟩) (by kernel_rfl) rfl (by rfl) fun K hK => ?_
 go_simp
 refine (joinR_any _ _ h b (by have := HL.out; omega) _ (Rd.kept HH.out hbd) (Rd.kept HBb.out hbd)).mono ?_
 rintro e w3 ⟨v3, rfl, hN3⟩
 refine hK.out _ _ hN3.2 ?_
 clear hK K
 try simp only [Act.put, putA, putB, putC]
 refine wpE_do (i := 6) (o := ⟨some 11, .call { callee := .value (.func 24), args := #[.tmp 10], argTypes := #[26] }, 26, "ref.go:84", #[⟨5, .data⟩, ⟨5, .chain⟩], none⟩) (by kernel_rfl) rfl (by rfl) fun K hK => ?_
 go_simp
 refine (sum256R_any _ (h ++ b) (by rw [List.length_append]; exact HL.out) _ hN3.rd).mono ?_
 rintro e w4 ⟨v4, rfl, hN4⟩
 rw [← HO.out] at hN4
 obtain ⟨a4, c4, rfl, -⟩ := id hN4.1
 refine hK.out _ _ hN4.2 ?_
 clear hK K
 try simp only [Act.put, putA, putB, putC]
 refine wpE_t (i := 9) (oi := ⟨some 14, .build 31 #[(0, .tmp 6), (1, .tmp 11), (2, .tmp 13)], 31, "ref.go:84", #[⟨1, .data⟩, ⟨6, .data⟩, ⟨8, .data⟩], none⟩) (v := ?_) ?_ ?_
 rotate_left
 ·intro W hW; refine Eq.trans (exec_build 31 #[(0, .tmp 6), (1, .tmp 11), (2, .tmp 13)] (by rfl) #[(0, .slice ac lc cc), (1, .slice a4 O.length c4), (2, .agg #[.slice ak lk cq, .int .u64 (n : Int)])] (by go_simp; rfl) (.agg #[.slice ac lc cc, .slice a4 O.length c4, .slice ak lk cq, .int .u64 (n : Int)]) (build_sa _ _ _ _ _ _ _ _ _ _ _)) ?_; with_reducible rfl
 try simp only [Act.put, putA, putB, putC]
 refine wpE_last (o := ⟨none, .store 31 (.tmp 4) (.tmp 14), 0, "ref.go:84", #[⟨9, .data⟩, ⟨6, .chain⟩, ⟨0, .phase⟩, ⟨1, .phase⟩, ⟨2, .phase⟩, ⟨3, .phase⟩, ⟨4, .phase⟩, ⟨5, .phase⟩, ⟨6, .phase⟩, ⟨7, .phase⟩, ⟨8, .phase⟩, ⟨9, .phase⟩], none⟩) (by kernel_rfl) (by kernel_rfl) rfl (by rfl) fun K hK => ?_
 refine wp_store_part 31 _ _ rfl rfl (saC (.slice ac lc cc) (.slice a4 O.length c4) (.slice ak lk cq) n) rfl [] (saC (.slice none 0 0) (.slice none 0 0) (.slice none 0 0) 0) [] (saC (.slice ac lc cc) (.slice a4 O.length c4) (.slice ak lk cq) n) ((rz.drew.kept hN3.2).kept hN4.2) (whole16 _) (whole16 _) rfl rfl (info_sa (.slice none 0 0) (.slice none 0 0) (.slice none 0 0) 0) (saC_all _ _ _ _ _ _ _ _ _ _) ?_
 intro w7 r7 hw7
 refine hK.out _ _ ?_
 clear hK K
 try simp only [Act.put, putA, putB, putC]
 have b4 := stepB hbd (stepB hN3.2 hN4.2)
 have HX : Hid (Rd w7 (.slice a4 O.length c4) O) := hN4.1.far16 ((rz.drew.kept hN3.2).kept hN4.2) (saC_no8 _ _ _ _ _ _ _ _ _ _) hw7
 have HB7 : Hid _ := hw7.below _ _ z1 b4
 clear hN3 hN4 b4 rz r1
 go_wp2_with fail
 refine bodyPost_blk rfl rfl rfl r7 Tryz.underlying31 rfl (info_sa _ _ _ _) ?_
 exact ⟨_, rfl, HX.out, HB7.out⟩
theorem build_ck (a : Option Addr) (l c : Nat) (w : World) : (Instr.build 29 #[(0, .slice a l c)]).run Tryz.prog w = .ok (.agg #[.slice a l c, .int .u64 0]) w := by kernel_rfl

theorem bodyPost_blks {P : Program} {fn : Func} {p q : Tmp} {ty bt bu : TypeId} {g k : Nat} {cs ds : List Value} {d : TypeDesc} {R : Ending → World → Prop} {a : Act} {w : World} (h : fn.results = #[.cell p ty, .cell q ty]) (hd : a.defers = [])
  (hp : a.tmps.getD p undef = .pointer (some ⟨g, 0, none⟩)) (hq : a.tmps.getD q undef = .pointer (some ⟨k, 0, none⟩)) (hb : BlkAt g bt cs w) (hc : BlkAt k bu ds w) (hu : P.underlying ty = some d) (hrow : d.isRow = true) (hi : (P.info? ty).map (·.size) = some cs.length) (hj : (P.info? ty).map (·.size) = some ds.length)
  (hR : R (.returned (.tuple #[.agg cs.toArray, .agg ds.toArray])) w) : bodyPost P fn R .ret a w := by
 refine bodyPost_ret ?_ hd hR
 have hp' : a.tmps[p]?.getD undef = .pointer (some ⟨g, 0, none⟩) := by simpa using hp
 have hq' : a.tmps[q]?.getD undef = .pointer (some ⟨k, 0, none⟩) := by simpa using hq
 have hb' : BlkAt g bt (([] : List Value) ++ cs ++ []) w := by simpa using hb
 have hc' : BlkAt k bu (([] : List Value) ++ ds ++ []) w := by simpa using hc
 have hl := run_loadVar_mid (P := P) w g 0 ty cs d hb'.range hu hrow hi
 have hm := run_loadVar_mid (P := P) w k 0 ty ds d hc'.range hu hrow hj
 simp [results, h, hp', hq', asAddr, hl, hm]

set_option maxRecDepth 100000 in
set_option maxHeartbeats 4000000 in
theorem mixkey16_any (s : Sta) (vc vh vk vb : Value) (i : List UInt8) (A : Array Value) (hA : A = (saC vc vh vk s.c.n).toArray) (hl : s.ck.length ≤ 100000) (hi : i.length ≤ 100000) (w : World) (hc : Rd w vc s.ck) (hh : Rd w vh s.h) (hk : Rd w vk s.c.key) (hb : Rd w vb i) :
  Calls Tryz.prog 9 #[.agg A, vb] w fun e w' => ∃ x y, e = .returned (.agg (saC x vh y 0).toArray) ∧ Rd w' x (k1F s.ck i) ∧ Rd w' y (k2F s.ck i) ∧ Below w.heap.size w w' := by
 obtain ⟨ck, h, ⟨key, n⟩⟩ := s
 obtain ⟨ac, cc, rfl, -⟩ := id hc
 obtain ⟨ah, ch, rfl, -⟩ := id hh
 obtain ⟨ak, cq, rfl, -⟩ := id hk
 have HC : Hid (Rd w (.slice ac ck.length cc) ck) := hc
 have HBb : Hid (Rd w vb i) := hb
 have HL : Hid (ck.length ≤ 100000) := hl
 have HI : Hid (i.length ≤ 100000) := hi
 show Calls _ _ _ _ fun e w' => ∃ x y, e = .returned (.agg (saC x (.slice ah h.length ch) y 0).toArray) ∧ Rd w' x (k1F ck i) ∧ Rd w' y (k2F ck i) ∧ Below w.heap.size w w'
 replace hA : A = (saC (.slice ac ck.length cc) (.slice ah h.length ch) (.slice ak key.length cq) n).toArray := hA
 generalize h.length = lh at hA ⊢
 generalize key.length = lk at hA ⊢
 clear hc hh hk hb hl hi
 go_enter Tryz.func9, Tryz.ntmps9
 go_wp2_with (refine wpList_box_blk rfl 31 _ rfl (saC (.slice ac ck.length cc) (.slice ah lh ch) (.slice ak lk cq) n) (by rw [← hA]; rfl) ?_)
 intro w1 r1 b1 s1
 go_wp2_with (refine wpList_alloc_blk rfl 31 rfl (saC (.slice none 0 0) (.slice none 0 0) (.slice none 0 0) 0) (alloc_sa _) ?_)
 intro w2 rz b2 s2
 replace r1 := r1.kept b2
 have hbw := stepB b1 b2
 have c0 : w2.cell? ⟨w.heap.size, 0, none⟩ = some (.slice ac ck.length cc) := r1.cell 0
 have z1 := b1.size
 clear b1 b2 s1 s2 hA
 go_wp2_with fail
 refine (threeR_any _ _ ck i HL.out HI.out _ (Rd.kept HC.out hbw) (Rd.kept HBb.out hbw)).mono ?_
 rintro e w3 ⟨v1, v2, v3, rfl, h1, h2, -, B3⟩
 replace r1 := r1.kept B3
 replace rz := rz.kept B3
 have hb3 := stepB hbw B3
 have c1 : w3.cell? ⟨w.heap.size, 1, none⟩ = some (.slice ah lh ch) := r1.cell 1
 obtain ⟨K1, hK1⟩ : ∃ K, K = k1F ck i := ⟨_, rfl⟩
 obtain ⟨K2, hK2⟩ : ∃ K, K = k2F ck i := ⟨_, rfl⟩
 rw [← hK1] at h1
 rw [← hK2] at h2
 have HK1 : Hid (k1F ck i = K1) := hK1.symm
 have HK2 : Hid (k2F ck i = K2) := hK2.symm
 clear hK1 hK2
 obtain ⟨a1, d1, rfl, -⟩ := id h1
 obtain ⟨a2, d2, rfl, -⟩ := id h2
 clear c0 hbw B3
 go_wp2_with (first | refine wpList_buildB rfl 29 #[(0, .tmp 19)] rfl #[(0, .slice a2 K2.length d2)] (by go_simp) (.agg #[.slice a2 K2.length d2, .int .u64 0]) (build_ck _ _ _ _) ?_ | refine wpList_buildB rfl 31 #[(0, .tmp 16), (1, .tmp 18), (2, .tmp 20)] rfl #[(0, .slice a1 K1.length d1), (1, .slice ah lh ch), (2, .agg #[.slice a2 K2.length d2, .int .u64 0])] (by go_simp) (.agg #[.slice a1 K1.length d1, .slice ah lh ch, .slice a2 K2.length d2, .int .u64 0]) (build_sa _ _ _ _ _ _ _ _ _ _ _) ?_ | (refine wpList_store_part rfl 31 _ _ rfl rfl (saC (.slice a1 K1.length d1) (.slice ah lh ch) (.slice a2 K2.length d2) 0) rfl [] (saC (.slice none 0 0) (.slice none 0 0) (.slice none 0 0) 0) [] (saC (.slice a1 K1.length d1) (.slice ah lh ch) (.slice a2 K2.length d2) 0) rz (whole16 _) (whole16 _) rfl rfl (info_sa (.slice none 0 0) (.slice none 0 0) (.slice none 0 0) 0) (saC_all _ _ _ _ _ _ _ _ _ _) ?_; intro w7 r7 hw7))
 refine bodyPost_blk rfl rfl rfl r7 Tryz.underlying31 rfl (info_sa _ _ _ _) ?_
 rw [HK1.out, HK2.out]
 exact ⟨_, _, rfl, h1.far16 rz (saC_no8 _ _ _ _ _ _ _ _ _ _) hw7, h2.far16 rz (saC_no8 _ _ _ _ _ _ _ _ _ _) hw7, hw7.below _ _ z1 hb3⟩
set_option maxRecDepth 100000 in
set_option maxHeartbeats 4000000 in
theorem split16_any (s : Sta) (vc vh vk : Value) (A : Array Value) (hA : A = (saC vc vh vk s.c.n).toArray) (hl : s.ck.length ≤ 100000) (w : World) (hc : Rd w vc s.ck) (hh : Rd w vh s.h) (hk : Rd w vk s.c.key) :
  Calls Tryz.prog 20 #[.agg A] w fun e w' => ∃ x y, e = .returned (.tuple #[.agg (ciC x 0).toArray, .agg (ciC y 0).toArray]) ∧ Rd w' x (spS s).1.key ∧ Rd w' y (spS s).2.key ∧ Below w.heap.size w w' := by
 obtain ⟨ck, h, ⟨key, n⟩⟩ := s
 obtain ⟨ac, cc, rfl, -⟩ := id hc
 obtain ⟨ah, ch, rfl, -⟩ := id hh
 obtain ⟨ak, cq, rfl, -⟩ := id hk
 have HC : Hid (Rd w (.slice ac ck.length cc) ck) := hc
 have HL : Hid (ck.length ≤ 100000) := hl
 show Calls _ _ _ _ fun e w' => ∃ x y, e = .returned (.tuple #[.agg (ciC x 0).toArray, .agg (ciC y 0).toArray]) ∧ Rd w' x (k1F ck []) ∧ Rd w' y (k2F ck []) ∧ Below w.heap.size w w'
 replace hA : A = (saC (.slice ac ck.length cc) (.slice ah h.length ch) (.slice ak key.length cq) n).toArray := hA
 generalize h.length = lh at hA ⊢
 generalize key.length = lk at hA ⊢
 clear hc hh hk hl
 go_enter Tryz.func20, Tryz.ntmps20
 go_wp2_with (refine wpList_box_blk rfl 31 _ rfl (saC (.slice ac ck.length cc) (.slice ah lh ch) (.slice ak lk cq) n) (by rw [← hA]; rfl) ?_)
 intro w1 r1 b1 s1
 go_wp2_with (refine wpList_alloc_blk rfl 29 rfl (ciC (.slice none 0 0) 0) (alloc_ci _) ?_)
 intro w2 rz b2 s2
 go_wp2_with (refine wpList_alloc_blk rfl 29 rfl (ciC (.slice none 0 0) 0) (alloc_ci _) ?_)
 intro w2' ry b2' s2'
 replace r1 := (r1.kept b2).kept b2'
 replace rz := rz.kept b2'
 have hbw := stepB (stepB b1 b2) b2'
 have c0 : w2'.cell? ⟨w.heap.size, 0, none⟩ = some (.slice ac ck.length cc) := r1.cell 0
 have z1 := b1.size
 have n2 : w1.heap.size < w2.heap.size := by have := s2.out; omega
 clear b1 b2 s1 s2 hA b2' s2'
 go_wp2_with fail
 refine (threeR_any _ _ ck [] HL.out (by decide) _ (Rd.kept HC.out hbw) (Rd.nil _)).mono ?_
 rintro e w3 ⟨v1, v2, v3, rfl, h1, h2, -, B3⟩
 replace ry := ry.kept B3
 replace rz := rz.kept B3
 have hb3 := stepB hbw B3
 obtain ⟨K1, hK1⟩ : ∃ K, K = k1F ck [] := ⟨_, rfl⟩
 obtain ⟨K2, hK2⟩ : ∃ K, K = k2F ck [] := ⟨_, rfl⟩
 rw [← hK1] at h1
 rw [← hK2] at h2
 have HK1 : Hid (k1F ck [] = K1) := hK1.symm
 have HK2 : Hid (k2F ck [] = K2) := hK2.symm
 obtain ⟨a1, d1, rfl, -⟩ := id h1
 obtain ⟨a2, d2, rfl, -⟩ := id h2
 clear c0 hbw B3 hK1 hK2 r1
 go_wp2_with (first | refine wpList_buildB rfl 29 #[(0, .tmp 14)] rfl #[(0, .slice a1 K1.length d1)] (by go_simp) (.agg #[.slice a1 K1.length d1, .int .u64 0]) (build_ck _ _ _ _) ?_ | refine wpList_buildB rfl 29 #[(0, .tmp 16)] rfl #[(0, .slice a2 K2.length d2)] (by go_simp) (.agg #[.slice a2 K2.length d2, .int .u64 0]) (build_ck _ _ _ _) ?_ | (refine wpList_store_part rfl 29 _ _ rfl rfl (ciC (.slice a1 K1.length d1) 0) rfl [] (ciC (.slice none 0 0) 0) [] (ciC (.slice a1 K1.length d1) 0) rz (whole16 _) (whole16 _) rfl rfl (info_ci (.slice none 0 0) 0) (ciC_all _ _ _ _) ?_; intro w6 r6 hw6; have ry6 := ry.wrote hw6 (by omega)) | (refine wpList_store_part rfl 29 _ _ rfl rfl (ciC (.slice a2 K2.length d2) 0) rfl [] (ciC (.slice none 0 0) 0) [] (ciC (.slice a2 K2.length d2) 0) ry6 (whole16 _) (whole16 _) rfl rfl (info_ci (.slice none 0 0) 0) (ciC_all _ _ _ _) ?_; intro w7 r7 hw7))
 have r67 := r6.wrote hw7 (by omega)
 refine bodyPost_blks rfl rfl rfl rfl r67 r7 Tryz.underlying29 rfl (info_ci _ _) (info_ci _ _) ?_
 rw [HK1.out, HK2.out]
 exact ⟨_, _, rfl, (h1.far16 rz (ciC_no8 _ _ _ _) hw6).far16 ry6 (ciC_no8 _ _ _ _) hw7, (h2.far16 rz (ciC_no8 _ _ _ _) hw6).far16 ry6 (ciC_no8 _ _ _ _) hw7, hw7.below _ _ (by omega) (hw6.below _ _ z1 hb3)⟩
theorem StP.all {base g : Nat} {s : Sta} {w : World} (h : StP base g s w) : ∃ vc vh vk, w.cell? ⟨g, 0, none⟩ = some vc ∧ w.cell? ⟨g, 1, none⟩ = some vh ∧ w.cell? ⟨g, 2, none⟩ = some vk ∧ w.cell? ⟨g, 3, none⟩ = some (.int .u64 (s.c.n : Int)) ∧ Rd w vc s.ck ∧ Rd w vh s.h ∧ Rd w vk s.c.key := by
 obtain ⟨vc, vh, vk, h1, h2, h3, h4⟩ := h
 exact ⟨vc, vh, vk, h1.cell 0, h1.cell 1, h1.cell 2, h1.cell 3, h2.rd, h3.rd, h4.rd⟩

set_option maxRecDepth 100000 in
set_option maxHeartbeats 4000000 in
theorem like_any (base g : Nat) (s : Sta) (uc uh uk : Value) (A : Array Value) (hA : A = (saC uc uh uk s.c.n).toArray) (w : World) (hS : StP base g s w) (hc : Rd w uc s.ck) (hh : Rd w uh s.h) (hk : Rd w uk s.c.key) :
  Calls Tryz.prog 18 #[.pointer (some ⟨g, 0, none⟩), .agg A] w fun e w' => e = .returned (.bool true) ∧ Below w.heap.size w w' := by
 obtain ⟨vc, vh, vk, c0, c1, c2, c3, r0, r1, r2⟩ := hS.all
 have HA : Hid (A = (saC uc uh uk s.c.n).toArray) := hA
 have HR0 : Hid (Rd w vc s.ck) := r0
 have HR1 : Hid (Rd w vh s.h) := r1
 have HR2 : Hid (Rd w vk s.c.key) := r2
 have HU0 : Hid (Rd w uc s.ck) := hc
 have HU1 : Hid (Rd w uh s.h) := hh
 have HU2 : Hid (Rd w uk s.c.key) := hk
 obtain ⟨ac, cc, rfl, -⟩ := id r0
 obtain ⟨ah, ch, rfl, -⟩ := id r1
 obtain ⟨ak, ck, rfl, -⟩ := id r2
 obtain ⟨bc, dc, rfl, -⟩ := id hc
 obtain ⟨bh, dh, rfl, -⟩ := id hh
 obtain ⟨bk, dk, rfl, -⟩ := id hk
 clear hS r0 r1 r2 hc hh hk hA
 go_enter Tryz.func18, Tryz.ntmps18
 go_wp2_with (refine wpList_box_blk rfl 31 _ rfl (saC (.slice bc s.ck.length dc) (.slice bh s.h.length dh) (.slice bk s.c.key.length dk) s.c.n) (by rw [← HA.out]; rfl) ?_)
 intro w1 r1 b1 s1
 have d0 : w1.cell? ⟨w.heap.size, 0, none⟩ = some (.slice bc s.ck.length dc) := r1.cell 0
 have d1 : w1.cell? ⟨w.heap.size, 1, none⟩ = some (.slice bh s.h.length dh) := r1.cell 1
 have d2 : w1.cell? ⟨w.heap.size, 2, none⟩ = some (.slice bk s.c.key.length dk) := r1.cell 2
 have d3 : w1.cell? ⟨w.heap.size, 3, none⟩ = some (.int .u64 (s.c.n : Int)) := r1.cell 3
 replace c0 := cellT c0 b1
 replace c1 := cellT c1 b1
 replace c2 := cellT c2 b1
 replace c3 := cellT c3 b1
 have HB1 : Hid (Below w.heap.size w w1) := b1
 replace HR0 : Hid (Rd w1 _ s.ck) := HR0.out.kept b1
 replace HR1 : Hid (Rd w1 _ s.h) := HR1.out.kept b1
 replace HR2 : Hid (Rd w1 _ s.c.key) := HR2.out.kept b1
 replace HU0 : Hid (Rd w1 _ s.ck) := HU0.out.kept b1
 replace HU1 : Hid (Rd w1 _ s.h) := HU1.out.kept b1
 replace HU2 : Hid (Rd w1 _ s.c.key) := HU2.out.kept b1
 clear b1 s1 r1 HA
 obtain ⟨ck', h, ⟨key, n⟩⟩ := s
 replace c0 : w1.cell? ⟨g, 0, none⟩ = some (.slice ac ck'.length cc) := c0
 replace c1 : w1.cell? ⟨g, 1, none⟩ = some (.slice ah h.length ch) := c1
 replace c2 : w1.cell? ⟨g, 2, none⟩ = some (.slice ak key.length ck) := c2
 replace c3 : w1.cell? ⟨g, 3, none⟩ = some (.int .u64 (n : Int)) := c3
 replace d0 : w1.cell? ⟨w.heap.size, 0, none⟩ = some (.slice bc ck'.length dc) := d0
 replace d1 : w1.cell? ⟨w.heap.size, 1, none⟩ = some (.slice bh h.length dh) := d1
 replace d2 : w1.cell? ⟨w.heap.size, 2, none⟩ = some (.slice bk key.length dk) := d2
 replace d3 : w1.cell? ⟨w.heap.size, 3, none⟩ = some (.int .u64 (n : Int)) := d3
 replace HR0 : Hid (Rd w1 (.slice ac ck'.length cc) ck') := HR0.out
 replace HR1 : Hid (Rd w1 (.slice ah h.length ch) h) := HR1.out
 replace HR2 : Hid (Rd w1 (.slice ak key.length ck) key) := HR2.out
 replace HU0 : Hid (Rd w1 (.slice bc ck'.length dc) ck') := HU0.out
 replace HU1 : Hid (Rd w1 (.slice bh h.length dh) h) := HU1.out
 replace HU2 : Hid (Rd w1 (.slice bk key.length dk) key) := HU2.out
 go_wp2_with fail
 refine wpG_begin (by kernel_rfl) ?_
 refine wpG_t (i := 0) (oi := ⟨some 5, .move (.tmp 0), 24, "law.go:29", #[], none⟩) (v := ?_) ?_ ?_
 rotate_left
 ·intro W hW; go_simp <;> with_reducible rfl
 try simp only [Act.put, putA, putB, putC]
 refine wpG_t (i := 1) (oi := ⟨some 6, .nilCheck (.tmp 5), 0, "law.go:29", #[⟨0, .data⟩], none⟩) (v := ?_) ?_ ?_
 rotate_left
 ·intro W hW; go_simp <;> with_reducible rfl
 try simp only [Act.put, putA, putB, putC]
 refine wpG_t (i := 2) (oi := ⟨some 7, .fieldAddr 44 (.tmp 6) 0, 0, "law.go:29", #[⟨1, .data⟩], none⟩) (v := ?_) ?_ ?_
 rotate_left
 ·intro W hW; go_simp <;> with_reducible rfl
 try simp only [Act.put, putA, putB, putC]
 refine wpG_t (i := 3) (oi := ⟨some 8, .load 26 (.tmp 7), 26, "law.go:29", #[⟨2, .data⟩], none⟩) (v := ?_) ?_ ?_
 rotate_left
 ·intro W hW; have hcW := cellS c0 hW; go_simp <;> with_reducible rfl
 try simp only [Act.put, putA, putB, putC]
 refine wpG_t (i := 4) (oi := ⟨some 9, .convert 26 9 (.tmp 8), 9, "law.go:29", #[⟨3, .data⟩], none⟩) (v := ?_) ?_ ?_
 rotate_left
 ·intro W hW; have hcv := convS (HR0.out.drew.kept hW); go_simp <;> with_reducible rfl
 try simp only [Act.put, putA, putB, putC]
 refine wpG_t (i := 5) (oi := ⟨some 10, .fieldAddr 31 (.tmp 3) 0, 0, "law.go:29", #[], none⟩) (v := ?_) ?_ ?_
 rotate_left
 ·intro W hW; go_simp <;> with_reducible rfl
 try simp only [Act.put, putA, putB, putC]
 refine wpG_t (i := 6) (oi := ⟨some 11, .load 26 (.tmp 10), 26, "law.go:29", #[⟨5, .data⟩], none⟩) (v := ?_) ?_ ?_
 rotate_left
 ·intro W hW; have hcW := cellS d0 hW; go_simp <;> with_reducible rfl
 try simp only [Act.put, putA, putB, putC]
 refine wpG_t (i := 7) (oi := ⟨some 12, .convert 26 9 (.tmp 11), 9, "law.go:29", #[⟨6, .data⟩], none⟩) (v := ?_) ?_ ?_
 rotate_left
 ·intro W hW; have hcv := convS (HU0.out.drew.kept hW); go_simp <;> with_reducible rfl
 try simp only [Act.put, putA, putB, putC]
 refine wpG_t (i := 8) (oi := ⟨some 13, .binOp .eql 9 (.tmp 9) (.tmp 12) 9, 4, "law.go:29", #[⟨4, .data⟩, ⟨7, .data⟩], none⟩) (v := ?_) ?_ ?_
 rotate_left
 ·intro W hW; go_simp <;> with_reducible rfl
 try simp only [Act.put, putA, putB, putC]
 refine wpG_t (i := 9) (oi := ⟨some 14, .move (.tmp 13), 4, "law.go:29", #[⟨8, .data⟩], none⟩) (v := ?_) ?_ ?_
 rotate_left
 ·intro W hW; go_simp <;> with_reducible rfl
 try simp only [Act.put, putA, putB, putC]
 refine wpG_t (i := 10) (oi := ⟨some 15, .move (.tmp 0), 24, "law.go:29", #[⟨9, .guard⟩], some (9, true)⟩) (v := ?_) ?_ ?_
 rotate_left
 ·intro W hW; go_simp <;> with_reducible rfl
 try simp only [Act.put, putA, putB, putC]
 refine wpG_t (i := 11) (oi := ⟨some 16, .nilCheck (.tmp 15), 0, "law.go:29", #[⟨10, .data⟩, ⟨9, .guard⟩], some (9, true)⟩) (v := ?_) ?_ ?_
 rotate_left
 ·intro W hW; go_simp <;> with_reducible rfl
 try simp only [Act.put, putA, putB, putC]
 refine wpG_t (i := 12) (oi := ⟨some 17, .fieldAddr 44 (.tmp 16) 1, 0, "law.go:29", #[⟨11, .data⟩, ⟨9, .guard⟩], some (9, true)⟩) (v := ?_) ?_ ?_
 rotate_left
 ·intro W hW; go_simp <;> with_reducible rfl
 try simp only [Act.put, putA, putB, putC]
 refine wpG_t (i := 13) (oi := ⟨some 18, .load 26 (.tmp 17), 26, "law.go:29", #[⟨12, .data⟩, ⟨9, .guard⟩], some (9, true)⟩) (v := ?_) ?_ ?_
 rotate_left
 ·intro W hW; have hcW := cellS c1 hW; go_simp <;> with_reducible rfl
 try simp only [Act.put, putA, putB, putC]
 refine wpG_t (i := 14) (oi := ⟨some 19, .convert 26 9 (.tmp 18), 9, "law.go:29", #[⟨13, .data⟩, ⟨9, .guard⟩], some (9, true)⟩) (v := ?_) ?_ ?_
 rotate_left
 ·intro W hW; have hcv := convS (HR1.out.drew.kept hW); go_simp <;> with_reducible rfl
 try simp only [Act.put, putA, putB, putC]
 refine wpG_t (i := 15) (oi := ⟨some 20, .fieldAddr 31 (.tmp 3) 1, 0, "law.go:29", #[⟨9, .guard⟩], some (9, true)⟩) (v := ?_) ?_ ?_
 rotate_left
 ·intro W hW; go_simp <;> with_reducible rfl
 try simp only [Act.put, putA, putB, putC]
 refine wpG_t (i := 16) (oi := ⟨some 21, .load 26 (.tmp 20), 26, "law.go:29", #[⟨15, .data⟩, ⟨9, .guard⟩], some (9, true)⟩) (v := ?_) ?_ ?_
 rotate_left
 ·intro W hW; have hcW := cellS d1 hW; go_simp <;> with_reducible rfl
 try simp only [Act.put, putA, putB, putC]
 refine wpG_t (i := 17) (oi := ⟨some 22, .convert 26 9 (.tmp 21), 9, "law.go:29", #[⟨16, .data⟩, ⟨9, .guard⟩], some (9, true)⟩) (v := ?_) ?_ ?_
 rotate_left
 ·intro W hW; have hcv := convS (HU1.out.drew.kept hW); go_simp <;> with_reducible rfl
 try simp only [Act.put, putA, putB, putC]
 refine wpG_t (i := 18) (oi := ⟨some 23, .binOp .eql 9 (.tmp 19) (.tmp 22) 9, 4, "law.go:29", #[⟨14, .data⟩, ⟨17, .data⟩, ⟨9, .guard⟩], some (9, true)⟩) (v := ?_) ?_ ?_
 rotate_left
 ·intro W hW; go_simp <;> with_reducible rfl
 try simp only [Act.put, putA, putB, putC]
 refine wpG_t (i := 19) (oi := ⟨some 24, .pick (.tmp 14) (.tmp 23) (.const (.bool false)), 4, "law.go:29", #[⟨9, .data⟩, ⟨18, .data⟩], none⟩) (v := ?_) ?_ ?_
 rotate_left
 ·intro W hW; go_simp <;> with_reducible rfl
 try simp only [Act.put, putA, putB, putC]
 refine wpG_t (i := 20) (oi := ⟨some 25, .move (.tmp 24), 4, "law.go:29", #[⟨19, .data⟩, ⟨9, .chain⟩], none⟩) (v := ?_) ?_ ?_
 rotate_left
 ·intro W hW; go_simp <;> with_reducible rfl
 try simp only [Act.put, putA, putB, putC]
 refine wpG_t (i := 21) (oi := ⟨some 26, .move (.tmp 0), 24, "law.go:29", #[⟨20, .guard⟩], some (20, true)⟩) (v := ?_) ?_ ?_
 rotate_left
 ·intro W hW; go_simp <;> with_reducible rfl
 try simp only [Act.put, putA, putB, putC]
 refine wpG_t (i := 22) (oi := ⟨some 27, .nilCheck (.tmp 26), 0, "law.go:29", #[⟨21, .data⟩, ⟨20, .guard⟩], some (20, true)⟩) (v := ?_) ?_ ?_
 rotate_left
 ·intro W hW; go_simp <;> with_reducible rfl
 try simp only [Act.put, putA, putB, putC]
 refine wpG_t (i := 23) (oi := ⟨some 28, .fieldAddr 44 (.tmp 27) 2, 0, "law.go:29", #[⟨22, .data⟩, ⟨20, .guard⟩], some (20, true)⟩) (v := ?_) ?_ ?_
 rotate_left
 ·intro W hW; go_simp <;> with_reducible rfl
 try simp only [Act.put, putA, putB, putC]
 refine wpG_t (i := 24) (oi := ⟨some 29, .fieldAddr 42 (.tmp 28) 0, 0, "law.go:29", #[⟨23, .data⟩, ⟨20, .guard⟩], some (20, true)⟩) (v := ?_) ?_ ?_
 rotate_left
 ·intro W hW; go_simp <;> with_reducible rfl
 try simp only [Act.put, putA, putB, putC]
 refine wpG_t (i := 25) (oi := ⟨some 30, .load 26 (.tmp 29), 26, "law.go:29", #[⟨24, .data⟩, ⟨20, .guard⟩], some (20, true)⟩) (v := ?_) ?_ ?_
 rotate_left
 ·intro W hW; have hcW := cellS c2 hW; go_simp <;> with_reducible rfl
 try simp only [Act.put, putA, putB, putC]
 refine wpG_t (i := 26) (oi := ⟨some 31, .convert 26 9 (.tmp 30), 9, "law.go:29", #[⟨25, .data⟩, ⟨20, .guard⟩], some (20, true)⟩) (v := ?_) ?_ ?_
 rotate_left
 ·intro W hW; have hcv := convS (HR2.out.drew.kept hW); go_simp <;> with_reducible rfl
 try simp only [Act.put, putA, putB, putC]
 refine wpG_t (i := 27) (oi := ⟨some 32, .fieldAddr 31 (.tmp 3) 2, 0, "law.go:29", #[⟨20, .guard⟩], some (20, true)⟩) (v := ?_) ?_ ?_
 rotate_left
 ·intro W hW; go_simp <;> with_reducible rfl
 try simp only [Act.put, putA, putB, putC]
 refine wpG_t (i := 28) (oi := ⟨some 33, .fieldAddr 29 (.tmp 32) 0, 0, "law.go:29", #[⟨27, .data⟩, ⟨20, .guard⟩], some (20, true)⟩) (v := ?_) ?_ ?_
 rotate_left
 ·intro W hW; go_simp <;> with_reducible rfl
 try simp only [Act.put, putA, putB, putC]
 refine wpG_t (i := 29) (oi := ⟨some 34, .load 26 (.tmp 33), 26, "law.go:29", #[⟨28, .data⟩, ⟨20, .guard⟩], some (20, true)⟩) (v := ?_) ?_ ?_
 rotate_left
 ·intro W hW; have hcW := cellS d2 hW; go_simp <;> with_reducible rfl
 try simp only [Act.put, putA, putB, putC]
 refine wpG_t (i := 30) (oi := ⟨some 35, .convert 26 9 (.tmp 34), 9, "law.go:29", #[⟨29, .data⟩, ⟨20, .guard⟩], some (20, true)⟩) (v := ?_) ?_ ?_
 rotate_left
 ·intro W hW; have hcv := convS (HU2.out.drew.kept hW); go_simp <;> with_reducible rfl
 try simp only [Act.put, putA, putB, putC]
 refine wpG_t (i := 31) (oi := ⟨some 36, .binOp .eql 9 (.tmp 31) (.tmp 35) 9, 4, "law.go:29", #[⟨26, .data⟩, ⟨30, .data⟩, ⟨20, .guard⟩], some (20, true)⟩) (v := ?_) ?_ ?_
 rotate_left
 ·intro W hW; go_simp <;> with_reducible rfl
 try simp only [Act.put, putA, putB, putC]
 refine wpG_t (i := 32) (oi := ⟨some 37, .pick (.tmp 25) (.tmp 36) (.const (.bool false)), 4, "law.go:29", #[⟨20, .data⟩, ⟨31, .data⟩], none⟩) (v := ?_) ?_ ?_
 rotate_left
 ·intro W hW; go_simp <;> with_reducible rfl
 try simp only [Act.put, putA, putB, putC]
 refine wpG_t (i := 33) (oi := ⟨some 38, .move (.tmp 37), 4, "law.go:29", #[⟨32, .data⟩, ⟨20, .chain⟩], none⟩) (v := ?_) ?_ ?_
 rotate_left
 ·intro W hW; go_simp <;> with_reducible rfl
 try simp only [Act.put, putA, putB, putC]
 refine wpG_t (i := 34) (oi := ⟨some 39, .move (.tmp 0), 24, "law.go:29", #[⟨33, .guard⟩], some (33, true)⟩) (v := ?_) ?_ ?_
 rotate_left
 ·intro W hW; go_simp <;> with_reducible rfl
 try simp only [Act.put, putA, putB, putC]
 refine wpG_t (i := 35) (oi := ⟨some 40, .nilCheck (.tmp 39), 0, "law.go:29", #[⟨34, .data⟩, ⟨33, .guard⟩], some (33, true)⟩) (v := ?_) ?_ ?_
 rotate_left
 ·intro W hW; go_simp <;> with_reducible rfl
 try simp only [Act.put, putA, putB, putC]
 refine wpG_t (i := 36) (oi := ⟨some 41, .fieldAddr 44 (.tmp 40) 2, 0, "law.go:29", #[⟨35, .data⟩, ⟨33, .guard⟩], some (33, true)⟩) (v := ?_) ?_ ?_
 rotate_left
 ·intro W hW; go_simp <;> with_reducible rfl
 try simp only [Act.put, putA, putB, putC]
 refine wpG_t (i := 37) (oi := ⟨some 42, .fieldAddr 42 (.tmp 41) 1, 0, "law.go:29", #[⟨36, .data⟩, ⟨33, .guard⟩], some (33, true)⟩) (v := ?_) ?_ ?_
 rotate_left
 ·intro W hW; go_simp <;> with_reducible rfl
 try simp only [Act.put, putA, putB, putC]
 refine wpG_t (i := 38) (oi := ⟨some 43, .load 27 (.tmp 42), 27, "law.go:29", #[⟨37, .data⟩, ⟨33, .guard⟩], some (33, true)⟩) (v := ?_) ?_ ?_
 rotate_left
 ·intro W hW; have hcW := cellS c3 hW; go_simp <;> with_reducible rfl
 try simp only [Act.put, putA, putB, putC]
 refine wpG_t (i := 39) (oi := ⟨some 44, .fieldAddr 31 (.tmp 3) 2, 0, "law.go:29", #[⟨33, .guard⟩], some (33, true)⟩) (v := ?_) ?_ ?_
 rotate_left
 ·intro W hW; go_simp <;> with_reducible rfl
 try simp only [Act.put, putA, putB, putC]
 refine wpG_t (i := 40) (oi := ⟨some 45, .fieldAddr 29 (.tmp 44) 1, 0, "law.go:29", #[⟨39, .data⟩, ⟨33, .guard⟩], some (33, true)⟩) (v := ?_) ?_ ?_
 rotate_left
 ·intro W hW; go_simp <;> with_reducible rfl
 try simp only [Act.put, putA, putB, putC]
 refine wpG_t (i := 41) (oi := ⟨some 46, .load 27 (.tmp 45), 27, "law.go:29", #[⟨40, .data⟩, ⟨33, .guard⟩], some (33, true)⟩) (v := ?_) ?_ ?_
 rotate_left
 ·intro W hW; have hcW := cellS d3 hW; go_simp <;> with_reducible rfl
 try simp only [Act.put, putA, putB, putC]
 refine wpG_t (i := 42) (oi := ⟨some 47, .binOp .eql 27 (.tmp 43) (.tmp 46) 27, 4, "law.go:29", #[⟨38, .data⟩, ⟨41, .data⟩, ⟨33, .guard⟩], some (33, true)⟩) (v := ?_) ?_ ?_
 rotate_left
 ·intro W hW; go_simp <;> with_reducible rfl
 try simp only [Act.put, putA, putB, putC]
 refine wpG_t (i := 43) (oi := ⟨some 48, .pick (.tmp 38) (.tmp 47) (.const (.bool false)), 4, "law.go:29", #[⟨33, .data⟩, ⟨42, .data⟩], none⟩) (v := ?_) ?_ ?_
 rotate_left
 ·intro W hW; go_simp <;> with_reducible rfl
 try simp only [Act.put, putA, putB, putC]
 refine wpG_t (i := 44) (oi := ⟨some 4, .assign (.tmp 48), 4, "law.go:29", #[⟨43, .data⟩, ⟨33, .chain⟩, ⟨0, .phase⟩, ⟨1, .phase⟩, ⟨2, .phase⟩, ⟨3, .phase⟩, ⟨4, .phase⟩, ⟨5, .phase⟩, ⟨6, .phase⟩, ⟨7, .phase⟩, ⟨8, .phase⟩, ⟨9, .phase⟩, ⟨10, .phase⟩, ⟨11, .phase⟩, ⟨12, .phase⟩, ⟨13, .phase⟩, ⟨14, .phase⟩, ⟨15, .phase⟩, ⟨16, .phase⟩, ⟨17, .phase⟩, ⟨18, .phase⟩, ⟨19, .phase⟩, ⟨20, .phase⟩, ⟨21, .phase⟩, ⟨22, .phase⟩, ⟨23, .phase⟩, ⟨24, .phase⟩, ⟨25, .phase⟩, ⟨26, .phase⟩, ⟨27, .phase⟩, ⟨28, .phase⟩, ⟨29, .phase⟩, ⟨30, .phase⟩, ⟨31, .phase⟩, ⟨32, .phase⟩, ⟨33, .phase⟩, ⟨34, .phase⟩, ⟨35, .phase⟩, ⟨36, .phase⟩, ⟨37, .phase⟩, ⟨38, .phase⟩, ⟨39, .phase⟩, ⟨40, .phase⟩, ⟨41, .phase⟩, ⟨42, .phase⟩, ⟨43, .phase⟩], none⟩) (v := ?_) ?_ ?_
 rotate_left
 ·intro W hW; go_simp <;> with_reducible rfl
 try simp only [Act.put, putA, putB, putC]
 refine wpG_done (by kernel_rfl) ?_
 go_wp2
 go_ret
 exact ⟨by simp, HB1.out.drew⟩

theorem Own.first17 {e : TypeId} {w0 w : World} {v : Value} {l : List UInt8} {L : List (Value × List UInt8)} (h : Own e w0 ((v, l) :: L) w) : New e w0 v l w := ⟨h.rows _ (List.mem_cons_self ..), h.below⟩

theorem own_any (v : Value) (l : List UInt8) (hl : l.length ≤ 1000000) (w : World) (hr : Rd w v l) : Calls Tryz.prog 21 #[v] w fun e w' => ∃ x, e = .returned x ∧ New 5 w x l w' := by
 have HR : Hid (Rd w v l) := hr
 have HL : Hid (l.length ≤ 1000000) := hl
 have hO0 : Own 5 w [(.slice none 0 0, [])] w := (Own.start 5 w).nil
 clear hr hl
 go_enter Tryz.func21, Tryz.ntmps21
 go_wp2_with (at_builtin; go_must (refine wpList_append_Own (w0 := w) rfl _ _ 26 rfl Tryz.underlying26 infoU8 _ _ rfl hO0 _ _ rfl HR.out (by have := HL.out; simp; omega) ?_))
 intro vx w2 hO5
 have hN2 : New 5 w vx l w2 := by simpa using hO5.first17
 have HN : Hid (New 5 w vx l w2) := hN2
 clear hO0 hO5 hN2
 go_wp2
 go_ret
 exact ⟨_, rfl, HN.out⟩
theorem wpList_loadG16 {P : Program} {ops : Array Oper} {rest : List Oper} {op : Oper} {a : Act} {w : World} {Q : Exit → Act → World → Prop} (ty : TypeId) (x : Operand) (ho : op.op = .load ty x) {g : Nat} (hx : a.eval x = .pointer (some ⟨g, 0, none⟩))
  {bt : TypeId} (cs : List Value) (hb : BlkAt g bt cs w) {d : TypeDesc} (hu : P.underlying ty = some d) (hd : d.isRow = true) (hi : (P.info? ty).map (·.size) = some cs.length) (hw : Region.wanted op (yielded ops a.tmps) = true)
  (h : wpList P ops Q rest (a.put op.dst (.agg cs.toArray)) w) : wpList P ops Q (op :: rest) a w := by
 refine wpList_step fun K hK => ?_
 rw [if_pos hw]
 unfold Oper.wp
 rw [exec_load_part ty x ho hx [] cs [] hb (Below.refl _ _) (by simp) rfl hu hd hi]
 exact hK _ _ h
theorem wp_box_own {P : Program} {op : Oper} {a : Act} {w : World} {K : Act → World → Prop} {Q : Exit → Act → World → Prop} (ty : TypeId) (x : Operand) (ho : op.op = .box ty x) (cs : List Value) (hx : a.eval x = .agg cs.toArray)
  (h : ∀ w', BlkAt w.heap.size ty cs w' → Below w.heap.size w w' → K (a.put op.dst (.pointer (some ⟨w.heap.size, 0, none⟩))) w') : op.wp P a w K Q := by
 unfold Oper.wp execOp
 simp only [ho, hx, Sem.run_bind, run_boxB, Result.andThen_ok, Sem.run_pure]
 exact h _ (BlkAt.fresh rfl rfl) (growB _)
theorem build_kd16 (a : Option Addr) (l c : Nat) (x : Int) (w : World) : (Instr.build 42 #[(0, .slice a l c), (1, .int .u64 x)]).run Tryz.prog w = .ok (.agg #[.slice a l c, .int .u64 x]) w := by kernel_rfl
theorem build_st3 (a1 a2 a3 : Option Addr) (l1 c1 l2 c2 l3 c3 : Nat) (x : Int) (w : World) : (Instr.build 44 #[(0, .slice a1 l1 c1), (1, .slice a2 l2 c2), (2, .agg #[.slice a3 l3 c3, .int .u64 x])]).run Tryz.prog w = .ok (.agg #[.slice a1 l1 c1, .slice a2 l2 c2, .slice a3 l3 c3, .int .u64 x]) w := by kernel_rfl
theorem seS_keeps (s : Sta) (t : List UInt8) (hn : s.c.n < 18446744073709551616) : (seS s t).1.ck = s.ck ∧ (seS s t).1.c.key = s.c.key := by
 unfold seS
 split
 ·exact ⟨rfl, (seC_facts _ _ _ hn).1⟩
 ·exact ⟨rfl, rfl⟩
theorem opS_keeps (s : Sta) (t : List UInt8) (hn : s.c.n < 18446744073709551616) : (opS s t).1.ck = s.ck ∧ (opS s t).1.c.key = s.c.key := by
 unfold opS
 split
 ·exact ⟨rfl, (opC_facts _ _ _ hn).1⟩
 ·exact ⟨rfl, rfl⟩
set_option maxRecDepth 100000 in
set_option maxHeartbeats 4000000 in
theorem mixboth16_any (s : Sta) (vc vh vk vb : Value) (i : List UInt8) (A : Array Value) (hA : A = (saC vc vh vk s.c.n).toArray) (hl : s.ck.length ≤ 100000) (hi : i.length ≤ 100000) (hlh : s.h.length ≤ 100000) (w : World) (hc : Rd w vc s.ck) (hh : Rd w vh s.h) (hk : Rd w vk s.c.key) (hb : Rd w vb i) :
  Calls Tryz.prog 13 #[.agg A, vb] w fun e w' => ∃ x z y, e = .returned (.agg (saC x z y 0).toArray) ∧ Rd w' x (mbS s i).ck ∧ Rd w' z (mbS s i).h ∧ Rd w' y (mbS s i).c.key ∧ Below w.heap.size w w' := by
 obtain ⟨ck, h, ⟨key, n⟩⟩ := s
 obtain ⟨ac, cc, rfl, -⟩ := id hc
 obtain ⟨ah, ch, rfl, -⟩ := id hh
 obtain ⟨ak, cq, rfl, -⟩ := id hk
 have HC : Hid (Rd w (.slice ac ck.length cc) ck) := hc
 have HH : Hid (Rd w (.slice ah h.length ch) h) := hh
 have HKy : Hid (Rd w (.slice ak key.length cq) key) := hk
 have HBb : Hid (Rd w vb i) := hb
 have HL : Hid (ck.length ≤ 100000) := hl
 have HLh : Hid (h.length ≤ 100000) := hlh
 have HI : Hid (i.length ≤ 100000) := hi
 show Calls _ _ _ _ fun e w' => ∃ x z y, e = .returned (.agg (saC x z y 0).toArray) ∧ Rd w' x (k1F ck i) ∧ Rd w' z (s2L (h ++ k2F ck i)) ∧ Rd w' y (k3F ck i) ∧ Below w.heap.size w w'
 replace hA : A = (saC (.slice ac ck.length cc) (.slice ah h.length ch) (.slice ak key.length cq) n).toArray := hA
 clear hc hh hk hb hl hi hlh
 go_enter Tryz.func13, Tryz.ntmps13
 go_wp2_with (refine wpList_box_blk rfl 31 _ rfl (saC (.slice ac ck.length cc) (.slice ah h.length ch) (.slice ak key.length cq) n) (by rw [← hA]; rfl) ?_)
 intro w1 r1 b1 s1
 go_wp2_with (refine wpList_alloc_blk rfl 31 rfl (saC (.slice none 0 0) (.slice none 0 0) (.slice none 0 0) 0) (alloc_sa _) ?_)
 intro w2 rz b2 s2
 replace r1 := r1.kept b2
 have hbw := stepB b1 b2
 have c0 : w2.cell? ⟨w.heap.size, 0, none⟩ = some (.slice ac ck.length cc) := r1.cell 0
 have z1 := b1.size
 clear b1 b2 s1 s2 hA
 go_wp2_with fail
 refine (threeR_any _ _ ck i HL.out HI.out _ (Rd.kept HC.out hbw) (Rd.kept HBb.out hbw)).mono ?_
 rintro e w3 ⟨v1, v2, v3, rfl, h1, h2, h3, B3⟩
 replace r1 := r1.kept B3
 replace rz := rz.kept B3
 have hb3 := stepB hbw B3
 have hK2l : (k2F ck i).length ≤ 100000 := by unfold k2F; rw [mcF_length]; decide
 obtain ⟨K1, hK1⟩ : ∃ K, K = k1F ck i := ⟨_, rfl⟩
 obtain ⟨K2, hK2⟩ : ∃ K, K = k2F ck i := ⟨_, rfl⟩
 obtain ⟨K3, hK3⟩ : ∃ K, K = k3F ck i := ⟨_, rfl⟩
 rw [← hK1] at h1
 rw [← hK2] at h2 hK2l
 rw [← hK3] at h3
 have HK1 : Hid (k1F ck i = K1) := hK1.symm
 have HK2 : Hid (k2F ck i = K2) := hK2.symm
 have HK3 : Hid (k3F ck i = K3) := hK3.symm
 have HK2l : Hid (K2.length ≤ 100000) := hK2l
 obtain ⟨a1, d1, rfl, -⟩ := id h1
 obtain ⟨a2, d2, rfl, -⟩ := id h2
 obtain ⟨a3, d3, rfl, -⟩ := id h3
 clear c0 hbw B3 hK1 hK2 hK3 hK2l
 go_wp2_with (refine wpList_load_part rfl 31 _ rfl rfl [] (saC (.slice ac ck.length cc) (.slice ah h.length ch) (.slice ak key.length cq) n) [] r1 (whole16 _) rfl Tryz.underlying31 rfl (info_sa _ _ _ _) ?_)
 refine (mixhash16_any ⟨ck, h, ⟨key, n⟩⟩ _ _ _ _ K2 _ rfl (by have := HK2l.out; have := HLh.out; show h.length + _ ≤ _; omega) _ (Rd.kept HC.out hb3) (Rd.kept HH.out hb3) (Rd.kept HKy.out hb3) h2).mono ?_
 rintro e w4 ⟨v4, rfl, h4, B4⟩
 replace h4 : Rd w4 v4 (s2L (h ++ K2)) := h4
 replace r1 := r1.kept B4
 replace rz := rz.kept B4
 replace h1 := Rd.kept h1 B4
 replace h3 := Rd.kept h3 B4
 have hb4 := stepB hb3 B4
 obtain ⟨H, hH⟩ : ∃ K, K = s2L (h ++ K2) := ⟨_, rfl⟩
 rw [← hH] at h4
 have HHq : Hid (s2L (h ++ K2) = H) := hH.symm
 obtain ⟨a4, d4, rfl, -⟩ := id h4
 have z4 := rz.lt
 clear hH h2 hb3 B4
 go_wp2_with (refine wpList_alloc_blk rfl 31 rfl (saC (.slice none 0 0) (.slice none 0 0) (.slice none 0 0) 0) (alloc_sa _) ?_)
 intro w5 rt b5 s5
 replace rz := rz.kept b5
 replace h1 := Rd.kept h1 b5
 replace h3 := Rd.kept h3 b5
 replace h4 := Rd.kept h4 b5
 have hb5 := stepB hb4 b5
 have z5 : w.heap.size ≤ w4.heap.size := hb4.size
 clear b5 s5 hb4 r1
 go_wp2_with (first | (refine wpList_store_part rfl 31 _ _ rfl rfl (saC (.slice ac ck.length cc) (.slice a4 H.length d4) (.slice ak key.length cq) n) rfl [] (saC (.slice none 0 0) (.slice none 0 0) (.slice none 0 0) 0) [] (saC (.slice ac ck.length cc) (.slice a4 H.length d4) (.slice ak key.length cq) n) rt (whole16 _) (whole16 _) rfl rfl (info_sa (.slice none 0 0) (.slice none 0 0) (.slice none 0 0) 0) (saC_all _ _ _ _ _ _ _ _ _ _) ?_; intro w6 r6 hw6; have rz6 := rz.wrote hw6 (by omega); have c6 : w6.cell? ⟨w4.heap.size, 1, none⟩ = some (.slice a4 H.length d4) := r6.cell 1) | refine wpList_buildB rfl 29 #[(0, .tmp 23)] rfl #[(0, .slice a3 K3.length d3)] (by go_simp) (.agg #[.slice a3 K3.length d3, .int .u64 0]) (build_ck _ _ _ _) ?_ | refine wpList_buildB rfl 31 #[(0, .tmp 20), (1, .tmp 22), (2, .tmp 24)] rfl #[(0, .slice a1 K1.length d1), (1, .slice a4 H.length d4), (2, .agg #[.slice a3 K3.length d3, .int .u64 0])] (by go_simp) (.agg #[.slice a1 K1.length d1, .slice a4 H.length d4, .slice a3 K3.length d3, .int .u64 0]) (build_sa _ _ _ _ _ _ _ _ _ _ _) ?_ | (refine wpList_store_part rfl 31 _ _ rfl rfl (saC (.slice a1 K1.length d1) (.slice a4 H.length d4) (.slice a3 K3.length d3) 0) rfl [] (saC (.slice none 0 0) (.slice none 0 0) (.slice none 0 0) 0) [] (saC (.slice a1 K1.length d1) (.slice a4 H.length d4) (.slice a3 K3.length d3) 0) rz6 (whole16 _) (whole16 _) rfl rfl (info_sa (.slice none 0 0) (.slice none 0 0) (.slice none 0 0) 0) (saC_all _ _ _ _ _ _ _ _ _ _) ?_; intro w7 r7 hw7))
 refine bodyPost_blk rfl rfl rfl r7 Tryz.underlying31 rfl (info_sa _ _ _ _) ?_
 rw [HK1.out, HK2.out, HK3.out, HHq.out]
 have n8 := saC_no8 none none none 0 0 0 0 0 0 0
 exact ⟨_, _, _, rfl, (h1.far16 rt n8 hw6).far16 rz6 n8 hw7, (h4.far16 rt n8 hw6).far16 rz6 n8 hw7, (h3.far16 rt n8 hw6).far16 rz6 n8 hw7, hw7.below _ _ z1 (hw6.below _ _ z5 hb5)⟩
end Go.Proofs.YtdlmmcilembjgaaGreatDoor
