/- What functions of the program, or of the reference, answer: contracts; several texts in one. -/
import Derived.Test.YtliiofjcghdjoaaDoorBase
import Derived.Test.YtliiofjcghdjoaaDoorKec
import Derived.Laws.AppendOwn

/- How long it takes till a message is said again, and when it is time: plain mathematics. No program's text is named. -/
namespace Go.Proofs.YtliiofjcghdjoaaDoor
set_option linter.unusedSimpArgs false
set_option linter.unusedVariables false

/-- Rules. -/
structure Rl where
  retry : Nat
  rmax : Nat
  tries : Int
  rekey : Nat
  expire : Nat
  rcount : Nat
  ecount : Nat
structure RlW (r : Rl) : Prop where
  retry : r.retry < 18446744073709551616
  rmax : r.rmax < 18446744073709551616
  tries : -9223372036854775808 ≤ r.tries ∧ r.tries ≤ 9223372036854775807
  rekey : r.rekey < 18446744073709551616
  expire : r.expire < 18446744073709551616
  rcount : r.rcount < 18446744073709551616
  ecount : r.ecount < 18446744073709551616
def rlC (r : Rl) : List Value := [.int .u64 (r.retry : Int), .int .u64 (r.rmax : Int), .int .i64 r.tries, .int .u64 (r.rekey : Int), .int .u64 (r.expire : Int), .int .u64 (r.rcount : Int), .int .u64 (r.ecount : Int)]
def tmC (last : Nat) (tries : Int) : List Value := [.int .u64 (last : Int), .int .i64 tries]
/-- How long since a moment. -/
def snN (then' now : Nat) : Nat := if now < then' then 0 else now - then'
/-- The first wait. -/
def w0N (r : Rl) : Nat := if r.retry = 0 then 1 else r.retry
/-- The greatest one. -/
def moN (r : Rl) : Nat := if r.rmax < w0N r then w0N r else r.rmax
/-- How long it takes till a message is said again. -/
def wtN (r : Rl) (n : Int) : Nat := min (w0N r * 2 ^ n.toNat) (moN r)
def duB (r : Rl) (last : Nat) (tries : Int) (now : Nat) : Bool := decide (wtN r tries ≤ snN last now)
/-- The timer behind it. -/
def agT (r : Rl) (last : Nat) (tries : Int) (now : Nat) : (Nat × Int) × Bool := if r.tries ≤ tries then ((last, tries), false) else ((now, tries + 1), true)
theorem w0N_pos (r : Rl) : 0 < w0N r := by unfold w0N; split <;> omega
theorem moN_ge (r : Rl) : w0N r ≤ moN r := by unfold moN; split <;> omega
theorem moN_lt {r : Rl} (h : RlW r) : moN r < 18446744073709551616 := by
  have h1 := h.retry
  have h2 := h.rmax
  unfold moN w0N
  split <;> split <;> omega
theorem two_pow_le {a b : Nat} (h : a ≤ b) : 2 ^ a ≤ 2 ^ b := Nat.pow_le_pow_right (by decide) h
/-- So many doublings as are there. -/
theorem wt_end (r : Rl) {i : Nat} {n : Int} (hi : n ≤ (i : Int)) (hi2 : (i : Int) ≤ n ∨ i = 0) (hm : w0N r * 2 ^ i ≤ moN r) : wtN r n = w0N r * 2 ^ i := by
  have e : n.toNat = i := by omega
  unfold wtN
  rw [e]
  exact Nat.min_eq_left hm
/-- One more is too many. -/
theorem wt_most (r : Rl) {i : Nat} {n : Int} (hi : (i : Int) < n) (hm : moN r < 2 * (w0N r * 2 ^ i)) : wtN r n = moN r := by
  have e : i + 1 ≤ n.toNat := by omega
  have h := Nat.mul_le_mul_left (w0N r) (two_pow_le e)
  rw [Nat.pow_succ, ← Nat.mul_assoc, Nat.mul_comm _ 2] at h
  unfold wtN
  exact Nat.min_eq_right (by omega)
theorem wt_few (r : Rl) {i : Nat} (h : RlW r) (hm : w0N r * 2 ^ i ≤ moN r) : i < 64 := by
  rcases Nat.lt_or_ge i 64 with h1 | h1
  · exact h1
  · have h2 := two_pow_le h1
    have h3 := Nat.mul_le_mul (w0N_pos r) h2
    have h4 := moN_lt h
    have h5 : 2 ^ 64 = 18446744073709551616 := by decide
    omega
theorem wt_next (r : Rl) (i : Nat) : w0N r * 2 ^ (i + 1) = 2 * (w0N r * 2 ^ i) := by rw [Nat.pow_succ, ← Nat.mul_assoc, Nat.mul_comm _ 2]
end Go.Proofs.YtliiofjcghdjoaaDoor

/- Waits double: plain mathematics. No program's text is named. -/
namespace Go.Proofs.YtliiofjcghdjoaaDoor
set_option linter.unusedSimpArgs false
set_option linter.unusedVariables false

theorem wt_zero (r : Rl) : wtN r 0 = w0N r := by
  have := moN_ge r
  unfold wtN
  simp
  omega
theorem wt_neg (r : Rl) {n : Int} (h : n ≤ 0) : wtN r n = w0N r := by
  have e : n.toNat = 0 := by omega
  have := moN_ge r
  unfold wtN
  rw [e]
  simp
  omega
theorem moN_two (r : Rl) : moN r = if r.rmax < wtN r 0 then wtN r 0 else r.rmax := by rw [wt_zero]; rfl
theorem wt_pos (r : Rl) (n : Int) : 0 < wtN r n := by
  have h1 := w0N_pos r
  have h2 := moN_ge r
  have h3 : 0 < 2 ^ n.toNat := Nat.pow_pos (by decide)
  have h4 := Nat.mul_pos h1 h3
  unfold wtN
  omega
theorem wt_le (r : Rl) (n : Int) : wtN r n ≤ moN r := Nat.min_le_right _ _
theorem wt_first (r : Rl) : (wtN r 0 = r.retry ∧ r.retry ≠ 0) ∨ (r.retry = 0 ∧ wtN r 0 = 1) := by
  rw [wt_zero]
  unfold w0N
  split <;> omega
theorem wt_doubles (r : Rl) (k : Nat) : (wtN r ((k : Int) + 1) = 2 * wtN r (k : Int) ∧ wtN r (k : Int) < wtN r ((k : Int) + 1)) ∨ wtN r ((k : Int) + 1) = moN r := by
  have e1 : ((k : Int) + 1).toNat = k + 1 := by omega
  have e2 : ((k : Int)).toNat = k := by omega
  have h1 := Nat.mul_pos (w0N_pos r) (show 0 < 2 ^ k from Nat.pow_pos (by decide))
  have h2 := wt_next r k
  unfold wtN
  rw [e1, e2, h2]
  omega
end Go.Proofs.YtliiofjcghdjoaaDoor

/- Waits by halving the bound: plain mathematics. No program's text is named. -/
namespace Go.Proofs.YtliiofjcghdjoaaDoor
set_option linter.unusedSimpArgs false
set_option linter.unusedVariables false

theorem wt_gt (r : Rl) (n : Int) (h : moN r / 2 ^ n.toNat < w0N r) : wtN r n = moN r := by
  have := (Nat.div_lt_iff_lt_mul (Nat.pow_pos (by decide))).1 h
  unfold wtN
  omega
theorem wt_le2 (r : Rl) (n : Int) (h : ¬ moN r / 2 ^ n.toNat < w0N r) : wtN r n = w0N r * 2 ^ n.toNat ∧ w0N r * 2 ^ n.toNat ≤ moN r := by
  have h1 : ¬ moN r < w0N r * 2 ^ n.toNat := fun e => h ((Nat.div_lt_iff_lt_mul (Nat.pow_pos (by decide))).2 e)
  unfold wtN
  omega
/-- Halved more than 64 times nothing is left. -/
theorem half_min {x n : Nat} (hx : x < 18446744073709551616) : x / 2 ^ min n 64 = x / 2 ^ n := by
  rcases Nat.le_total n 64 with h | h
  · rw [Nat.min_eq_left h]
  · have h5 : 2 ^ 64 = 18446744073709551616 := by decide
    have h2 := two_pow_le h
    rw [Nat.min_eq_right h, Nat.div_eq_of_lt (by omega), Nat.div_eq_of_lt (by omega)]
end Go.Proofs.YtliiofjcghdjoaaDoor

/- Which numbers came, as the document has it: plain mathematics. No program's text is named. -/
namespace Go.Proofs.YtliiofjcghdjoaaDoor
set_option linter.unusedSimpArgs false
set_option linter.unusedVariables false

/-- The greatest one of some numbers. -/
def tpN : List Nat → Nat
  | [] => 0
  | x :: l => max x (tpN l)
theorem tpN_snoc : ∀ (l : List Nat) (x : Nat), tpN (l ++ [x]) = max (tpN l) x
  | [], x => by simp [tpN]
  | y :: l, x => by
    simp only [List.cons_append, tpN, tpN_snoc l x]
    omega
theorem tpN_ge : ∀ {l : List Nat} {x : Nat}, x ∈ l → x ≤ tpN l
  | y :: l, x, h => by
    rcases List.mem_cons.1 h with rfl | h
    · simp only [tpN]; omega
    · have := tpN_ge h
      simp only [tpN]
      omega
theorem tpN_mem : ∀ {l : List Nat}, l ≠ [] → tpN l ∈ l
  | [x], _ => by simp [tpN]
  | x :: y :: l, _ => by
    have := tpN_mem (l := y :: l) (by simp)
    rw [show tpN (x :: y :: l) = max x (tpN (y :: l)) from rfl]
    rcases Nat.le_total x (tpN (y :: l)) with h | h
    · rw [Nat.max_eq_right h]; exact List.mem_cons_of_mem _ this
    · rw [Nat.max_eq_left h]; exact List.mem_cons_self ..
theorem tpN_lt {l : List Nat} {m : Nat} (hm : 0 < m) (h : ∀ x ∈ l, x < m) : tpN l < m := by
  by_cases h0 : l = []
  · subst h0; exact hm
  · exact h _ (tpN_mem h0)
/-- May a number come? -/
def cmE (l : List Nat) (n : Nat) : Int := if n ∈ l then 43 else if n < tpN l ∧ 128 ≤ tpN l - n then 43 else 0
/-- It comes. -/
def mkL (l : List Nat) (n : Nat) : List Nat × Int := if cmE l n = 0 then (l ++ [n], 0) else (l, cmE l n)
theorem cmE_ways (l : List Nat) (n : Nat) : (cmE l n = 43 ∧ (n ∈ l ∨ (n < tpN l ∧ 128 ≤ tpN l - n))) ∨ (cmE l n = 0 ∧ n ∉ l ∧ ¬ (n < tpN l ∧ 128 ≤ tpN l - n)) := by
  unfold cmE
  by_cases h : n ∈ l
  · rw [if_pos h]; exact .inl ⟨rfl, .inl h⟩
  · rw [if_neg h]
    by_cases h2 : n < tpN l ∧ 128 ≤ tpN l - n
    · rw [if_pos h2]; exact .inl ⟨rfl, .inr h2⟩
    · rw [if_neg h2]; exact .inr ⟨rfl, h, h2⟩
/-- Numbers as cells. -/
def nU (l : List Nat) : List Int := l.map fun x => ((x : Nat) : Int)
theorem nU_length (l : List Nat) : (nU l).length = l.length := by simp [nU]
theorem nU_getD (l : List Nat) (i : Nat) : (nU l).getD i 0 = ((l.getD i 0 : Nat) : Int) := by
  unfold nU
  by_cases h : i < l.length <;> simp [h]
theorem nU_snoc (l : List Nat) (x : Nat) : nU (l ++ [x]) = nU l ++ [((x : Nat) : Int)] := by simp [nU]
theorem take_snoc {l : List Nat} {i : Nat} (h : i < l.length) : l.take (i + 1) = l.take i ++ [l.getD i 0] := by
  rw [List.take_succ_eq_append_getElem h]
  simp [h]
theorem mem_take {l : List Nat} {i n : Nat} (h : i < l.length) (hn : n ∉ l.take i) (he : l.getD i 0 ≠ n) : n ∉ l.take (i + 1) := by
  rw [take_snoc h]
  intro hm
  rcases List.mem_append.1 hm with h1 | h1
  · exact hn h1
  · exact he (List.mem_singleton.1 h1).symm
end Go.Proofs.YtliiofjcghdjoaaDoor

/- Ciphers and states that are mixed, as the document has them: plain mathematics. No program's text is named. -/
namespace Go.Proofs.YtliiofjcghdjoaaDoor
set_option linter.unusedSimpArgs false
set_option linter.unusedVariables false

/-- A cipher: a key, a number. -/
structure Cph where
  key : List UInt8
  n : Nat
/-- A state: a chaining key, a sum, a cipher. -/
structure Sta where
  ck : List UInt8
  h : List UInt8
  c : Cph
/-- The nonce of a number. -/
def ncL (n : Nat) : List UInt8 := List.replicate 4 0 ++ st8 n
theorem ncL_length (n : Nat) : (ncL n).length = 12 := by
  unfold ncL
  rw [List.length_append, List.length_replicate, st8_length]
/-- What is opened, where the tag is right. -/
def opQ (k n a s : List UInt8) : List UInt8 × Int :=
  if s.length < 16 then ([], 13) else if tgL k n a (s.take (s.length - 16)) = s.drop (s.length - 16) then (smL k 1 n (s.take (s.length - 16)), 0) else ([], 10)
/-- Sealed: the cipher then, what is told, an error. -/
def seC (c : Cph) (ad t : List UInt8) : Cph × List UInt8 × Int :=
  if c.key.length = 0 then (c, t, 0) else if c.key.length ≠ 32 then (c, [], 1) else if c.n = 18446744073709551615 then (c, [], 31) else (⟨c.key, c.n + 1⟩, seL c.key (ncL c.n) ad t, 0)
def opC (c : Cph) (ad s : List UInt8) : Cph × List UInt8 × Int :=
  if c.key.length = 0 then (c, s, 0) else if c.key.length ≠ 32 then (c, [], 1) else if c.n = 18446744073709551615 then (c, [], 31)
  else if (opQ c.key (ncL c.n) ad s).2 = 0 then (⟨c.key, c.n + 1⟩, (opQ c.key (ncL c.n) ad s).1, 0) else (c, [], (opQ c.key (ncL c.n) ad s).2)
def rkC (c : Cph) : Cph := if c.key.length = 32 then ⟨(seL c.key (ncL 18446744073709551615) [] (List.replicate 32 0)).take 32, c.n⟩ else c
/-- A state of a name. -/
def nwH (s : List UInt8) : List UInt8 := if 32 < s.length then s2L s else s ++ List.replicate (32 - s.length) 0
def nwS (s : List UInt8) : Sta := ⟨nwH s, nwH s, ⟨[], 0⟩⟩
def mhS (s : Sta) (b : List UInt8) : Sta := ⟨s.ck, s2L (s.h ++ b), s.c⟩
def mkS (s : Sta) (i : List UInt8) : Sta := ⟨k1F s.ck i, s.h, ⟨k2F s.ck i, 0⟩⟩
def mbS (s : Sta) (i : List UInt8) : Sta := ⟨k1F s.ck i, s2L (s.h ++ k2F s.ck i), ⟨k3F s.ck i, 0⟩⟩
def seS (s : Sta) (t : List UInt8) : Sta × List UInt8 × Int := if (seC s.c s.h t).2.2 = 0 then (⟨s.ck, s2L (s.h ++ (seC s.c s.h t).2.1), (seC s.c s.h t).1⟩, (seC s.c s.h t).2.1, 0) else (s, [], (seC s.c s.h t).2.2)
def opS (s : Sta) (b : List UInt8) : Sta × List UInt8 × Int := if (opC s.c s.h b).2.2 = 0 then (⟨s.ck, s2L (s.h ++ b), (opC s.c s.h b).1⟩, (opC s.c s.h b).2.1, 0) else (s, [], (opC s.c s.h b).2.2)
def spS (s : Sta) : Cph × Cph := (⟨k1F s.ck [], 0⟩, ⟨k2F s.ck [], 0⟩)
end Go.Proofs.YtliiofjcghdjoaaDoor

/- Sessions as the document has them: plain mathematics. No program's text is named. -/
namespace Go.Proofs.YtliiofjcghdjoaaDoor
open Go.ChangeShapes Go.WideShapes Go.ChangeAt Go.RowKit
set_option linter.unusedSimpArgs false
set_option linter.unusedVariables false

/-- A session: its two ciphers, when it began, how many were sealed, which numbers came. -/
structure Ses where
  snd : Cph
  rcv : Cph
  born : Nat
  sent : Nat
  came : List Nat
structure SesW (s : Ses) : Prop where
  sn : s.snd.n < 18446744073709551616
  rn : s.rcv.n < 18446744073709551616
  born : s.born < 18446744073709551616
  sent : s.sent < 18446744073709551616
  came : ∀ x ∈ s.came, x < 18446744073709551616
def ssC (s : Ses) (v1 v2 v3 : Value) : List Value := [v1, .int .u64 (s.snd.n : Int), v2, .int .u64 (s.rcv.n : Int), .int .u64 (s.born : Int), .int .u64 (s.sent : Int), v3]
structure SsR (w : World) (s : Ses) (v1 v2 v3 : Value) : Prop where
  snd : Rd w v1 s.snd.key
  rcv : Rd w v2 s.rcv.key
  came : RdI .u64 w v3 (nU s.came)
theorem SsR.kept {w w' : World} {s : Ses} {v1 v2 v3 : Value} (h : SsR w s v1 v2 v3) (hb : Below w.heap.size w w') : SsR w' s v1 v2 v3 := ⟨h.snd.kept hb, h.rcv.kept hb, h.came.kept hb⟩
def rkB (r : Rl) (s : Ses) (now : Nat) : Bool := decide (r.rekey ≤ snN s.born now) || decide (r.rcount ≤ s.sent)
def exB (r : Rl) (s : Ses) (now : Nat) : Bool := decide (r.expire ≤ snN s.born now) || decide (r.ecount ≤ s.sent)
/-- What sealing a text makes of it. -/
def ssS (r : Rl) (s : Ses) (t : List UInt8) (now : Nat) : Ses × Nat × List UInt8 × Int :=
  if exB r s now = true then (s, 0, [], 52) else if (seC s.snd [] t).2.2 ≠ 0 then (s, 0, [], (seC s.snd [] t).2.2) else (⟨(seC s.snd [] t).1, s.rcv, s.born, s.sent + 1, s.came⟩, s.snd.n, (seC s.snd [] t).2.1, 0)
/-- .. and opening. -/
def ssO (r : Rl) (s : Ses) (n : Nat) (b : List UInt8) (now : Nat) : Ses × List UInt8 × Int :=
  if r.expire ≤ snN s.born now then (s, [], 52) else if cmE s.came n ≠ 0 then (s, [], cmE s.came n) else
  if (opC ⟨s.rcv.key, n⟩ [] b).2.2 ≠ 0 then (s, [], (opC ⟨s.rcv.key, n⟩ [] b).2.2) else (⟨s.snd, s.rcv, s.born, s.sent, (mkL s.came n).1⟩, (opC ⟨s.rcv.key, n⟩ [] b).2.1, 0)
theorem exB_sent {r : Rl} (hr : RlW r) {s : Ses} {now : Nat} (h : exB r s now = false) : s.sent + 1 < 18446744073709551616 := by
  unfold exB at h
  simp only [Bool.or_eq_false_iff, decide_eq_false_iff_not] at h
  have := hr.ecount
  omega
theorem mkL_ok {l : List Nat} {n : Nat} (h : cmE l n = 0) : mkL l n = (l ++ [n], 0) := by unfold mkL; rw [if_pos h]
end Go.Proofs.YtliiofjcghdjoaaDoor

/- Rows of one's own, and bytes, beside a block that calls change. No program's text is named. -/
namespace Go.Proofs.YtliiofjcghdjoaaDoor
open Go.ChangeShapes Go.WideShapes Go.ChangeAt Go.RowKit
set_option linter.unusedSimpArgs false
set_option linter.unusedVariables false

/-- A row of bytes of one's own, made since a heap of so many blocks. -/
def Ow (e : TypeId) (base : Nat) (v : Value) (l : List UInt8) (w : World) : Prop := w.ownsRow base e 1 v l.length (l.map bv)
theorem Ow.rd {e : TypeId} {base : Nat} {v : Value} {l : List UInt8} {w : World} (h : Ow e base v l w) : Rd w v l := Rd.of_row h
theorem Ow.of_new {e : TypeId} {v : Value} {l : List UInt8} {w w' : World} (h : New e w v l w') : Ow e w.heap.size v l w' := h.1
theorem Ow.mono {e : TypeId} {base base' : Nat} {v : Value} {l : List UInt8} {w : World} (h : Ow e base v l w) (hb : base' ≤ base) : Ow e base' v l w := own_mono h hb
theorem Ow.kept {e : TypeId} {base : Nat} {v : Value} {l : List UInt8} {w w' : World} (h : Ow e base v l w) (hb : Below w.heap.size w w') : Ow e base v l w' := own_chg h (Chg.of_below (S := fun _ => False) hb) (fun _ _ => id)
theorem Ow.nil (e : TypeId) (base : Nat) (w : World) : Ow e base (.slice none 0 0) [] w := World.ownsRow_nil _ _ _ _
theorem Ow.not_blk {e ty : TypeId} {base g : Nat} {v : Value} {l : List UInt8} {cs : List Value} {w : World} (h : Ow e base v l w) (hb : BlkAt g ty cs w) (hne : e ≠ ty) : v.ownBlock ≠ some g := by
  rcases h.2 with ⟨rfl, h0⟩ | ⟨g', cap, cur, rfl, hb', hg, hn, hm, hs, ht⟩
  · simp [Value.ownBlock]
  · intro h
    have h1 : g' = g := by simpa [Value.ownBlock] using h
    subst h1
    unfold BlkAt at hb
    rw [hg] at hb
    simp at hb
    exact hne hb.2
/-- It stays where the block of another kind changes. -/
theorem Ow.chg {e ty : TypeId} {base g : Nat} {v : Value} {l : List UInt8} {cs : List Value} {w w' : World} (h : Ow e base v l w) (hb : BlkAt g ty cs w) (hne : e ≠ ty) (c : Chg (fun b => b = g) w w') : Ow e base v l w' :=
  own_chg h c fun b h1 h2 => h.not_blk hb hne (by rw [h1, h2])
/-- .. where a row that is newer, or older, is written. -/
theorem Ow.other {e : TypeId} {base g : Nat} {v : Value} {l : List UInt8} {w w' : World} (h : Ow e base v l w) (c : Chg (fun b => b = g) w w') (hg : v.ownBlock ≠ some g) : Ow e base v l w' :=
  own_chg h c fun b h1 h2 => hg (by rw [h1, h2])
theorem Ow.lt {e : TypeId} {base : Nat} {v : Value} {l : List UInt8} {w : World} (h : Ow e base v l w) {g : Nat} (hg : v.ownBlock = some g) : base ≤ g ∧ g < w.heap.size := World.ownsRow.lt h g hg
/-- Cells none of which is a byte. -/
def No8 (cs : List Value) : Prop := ∀ (j : Nat) (x : Int), cs[j]? ≠ some (.int .u8 x)
theorem Rd.past16 {w w' : World} {v : Value} {l : List UInt8} {g : Nat} {ty : TypeId} {cs : List Value} (h : Rd w v l) (hb : BlkAt g ty cs w) (hn : No8 cs) (c : Chg (fun b => b = g) w w') : Rd w' v l := by
  obtain ⟨a, k, e1, h2, h3, h4, h5⟩ := h
  refine ⟨a, k, e1, h2, h3, h4, h5.imp id ?_⟩
  rintro ⟨b, off, e2, hc⟩
  refine ⟨b, off, e2, fun i hi => ?_⟩
  have h6 := hc i hi
  have hne : b ≠ g := by
    rintro rfl
    rw [hb.cell] at h6
    exact hn _ _ h6
  rw [World.cell?_of_block (w := w) (c.block b (World.block_lt_of_cell? _ _ h6) hne)]
  exact h6
theorem Chg.gone {g B : Nat} {a w w' : World} (h : Below B a w) (c : Chg (fun b => b = g) w w') (hB : B ≤ w.heap.size) (hg : B ≤ g) : Below B a w' := c.below h hB fun k _ e => by omega
theorem No8.of_slices {cs : List Value} (h : ∀ v ∈ cs, ∀ x, v ≠ .int .u8 x) : No8 cs := fun j x e => h _ (List.mem_of_getElem? e) x rfl
/-- A cipher's cells, a state's cells. -/
def ckD (vk : Value) (n : Nat) : List Value := [vk, .int .u64 (n : Int)]
def stD (vc vh vk : Value) (n : Nat) : List Value := [vc, vh, vk, .int .u64 (n : Int)]
theorem ckD_no8 (a : Option Addr) (l c n : Nat) : No8 (ckD (.slice a l c) n) := No8.of_slices (by
  intro v hv x
  simp only [ckD, List.mem_cons, List.not_mem_nil, or_false] at hv
  rcases hv with rfl | rfl <;> simp)
theorem stD_no8 (a1 a2 a3 : Option Addr) (l1 c1 l2 c2 l3 c3 n : Nat) : No8 (stD (.slice a1 l1 c1) (.slice a2 l2 c2) (.slice a3 l3 c3) n) := No8.of_slices (by
  intro v hv x
  simp only [stD, List.mem_cons, List.not_mem_nil, or_false] at hv
  rcases hv with rfl | rfl | rfl | rfl <;> simp)
/-- Cells, a cipher's among them. -/
def inB (pre post : List Value) (vk : Value) (n : Nat) : List Value := pre ++ [vk, .int .u64 (n : Int)] ++ post
theorem set_mid (pre post : List Value) (a b c : Value) : (pre ++ [a, b] ++ post).set (pre.length + 1) c = pre ++ [a, c] ++ post := by
  rw [List.append_assoc, List.set_append_right _ _ (by omega), Nat.add_sub_cancel_left, List.append_assoc]
  rfl
theorem set_mid0 (pre post : List Value) (a b c : Value) : (pre ++ [a, b] ++ post).set pre.length c = pre ++ [c, b] ++ post := by
  rw [List.append_assoc, List.set_append_right _ _ (by omega), Nat.sub_self, List.append_assoc]
  rfl
theorem get_mid0 (pre post : List Value) (a b : Value) : (pre ++ [a, b] ++ post)[pre.length]? = some a := by
  rw [List.append_assoc, List.getElem?_append_right (Nat.le_refl _), Nat.sub_self]
  rfl
theorem get_mid1 (pre post : List Value) (a b : Value) : (pre ++ [a, b] ++ post)[pre.length + 1]? = some b := by
  rw [List.append_assoc, List.getElem?_append_right (by omega), Nat.add_sub_cancel_left]
  rfl
theorem inB_set (pre post : List Value) (vk : Value) (n m : Nat) : (inB pre post vk n).set (pre.length + 1) (.int .u64 (m : Int)) = inB pre post vk m := set_mid _ _ _ _ _
theorem inB_set0 (pre post : List Value) (vk v : Value) (n : Nat) : (inB pre post vk n).set pre.length v = inB pre post v n := set_mid0 _ _ _ _ _
theorem inB_get0 (pre post : List Value) (vk : Value) (n : Nat) : (inB pre post vk n)[pre.length]? = some vk := get_mid0 _ _ _ _
theorem inB_get1 (pre post : List Value) (vk : Value) (n : Nat) : (inB pre post vk n)[pre.length + 1]? = some (.int .u64 (n : Int)) := get_mid1 _ _ _ _
end Go.Proofs.YtliiofjcghdjoaaDoor

/- Two words that are moved by one: plain mathematics. No program's text is named. -/
namespace Go.Proofs.YtliiofjcghdjoaaDoor
set_option linter.unusedSimpArgs false
set_option linter.unusedVariables false

/-- The bits of two words, the lower one first. -/
def wbF (a b : Nat) (j : Nat) : Bool := if j < 64 then a.testBit j else b.testBit (j - 64)
/-- They stand for which numbers came: bit j for the one j below the greatest one. -/
structure Wn (l : List Nat) (a b : Nat) : Prop where
  lo : a < 18446744073709551616
  hi : b < 18446744073709551616
  bits : ∀ j, j < 128 → (wbF a b j = true ↔ j ≤ tpN l ∧ tpN l - j ∈ l)
theorem two64 : (2 : Nat) ^ 64 = 18446744073709551616 := by decide
theorem tb_hi {a : Nat} (h : a < 18446744073709551616) {j : Nat} (hj : 64 ≤ j) : a.testBit j = false := Nat.testBit_lt_two_pow (Nat.lt_of_lt_of_le (by rw [← two64] at h; exact h) (Nat.pow_le_pow_right (by decide) hj))
/-- One step: both words by one, the lower one's highest bit into the upper one. -/
def mvA (a : Nat) : Nat := a * 2 % 18446744073709551616
def mvB (a b : Nat) : Nat := b * 2 % 18446744073709551616 ||| a / 9223372036854775808
theorem mvA_bit (a j : Nat) : (mvA a).testBit j = (decide (j < 64) && (decide (1 ≤ j) && a.testBit (j - 1))) := by
  unfold mvA
  rw [show 18446744073709551616 = 2 ^ 64 from two64.symm, Nat.testBit_mod_two_pow, show a * 2 = a * 2 ^ 1 by simp, ← Nat.shiftLeft_eq, Nat.testBit_shiftLeft]
theorem mvB_bit {a : Nat} (ha : a < 18446744073709551616) (b j : Nat) : (mvB a b).testBit j = ((decide (j < 64) && (decide (1 ≤ j) && b.testBit (j - 1))) || a.testBit (j + 63)) := by
  unfold mvB
  rw [Nat.testBit_or, show a / 9223372036854775808 = a >>> 63 by rw [Nat.shiftRight_eq_div_pow], Nat.testBit_shiftRight, Nat.add_comm 63 j]
  congr 1
  rw [show 18446744073709551616 = 2 ^ 64 from two64.symm, Nat.testBit_mod_two_pow, show b * 2 = b * 2 ^ 1 by simp, ← Nat.shiftLeft_eq, Nat.testBit_shiftLeft]
theorem mvA_lt (a : Nat) : mvA a < 18446744073709551616 := Nat.mod_lt _ (by decide)
theorem mvB_lt {a : Nat} (ha : a < 18446744073709551616) (b : Nat) : mvB a b < 18446744073709551616 := by
  rw [← two64]
  refine Nat.or_lt_two_pow ?_ ?_
  · rw [two64]; exact Nat.mod_lt _ (by decide)
  · rw [two64]; omega
/-- The bits, moved by one. -/
theorem mv_bits {a b : Nat} (ha : a < 18446744073709551616) (j : Nat) (hj : j < 128) : wbF (mvA a) (mvB a b) j = (decide (1 ≤ j) && wbF a b (j - 1)) := by
  unfold wbF
  by_cases h : j < 64
  · rw [if_pos h, mvA_bit, decide_eq_true h, Bool.true_and]
    by_cases h0 : 1 ≤ j
    · rw [if_pos (by omega)]
    · simp [h0]
  · rw [if_neg h, mvB_bit ha]
    have h0 : 1 ≤ j := by omega
    by_cases h1 : j = 64
    · subst h1
      simp
    · rw [tb_hi ha (by omega), if_neg (by omega), show j - 64 - 1 = j - 1 - 64 by omega]
      have h2 : j - 64 < 64 := by omega
      have h3 : 1 ≤ j - 64 := by omega
      simp [h2, h3, h0]
/-- So many steps. -/
def mvN : Nat → Nat × Nat → Nat × Nat
  | 0, p => p
  | n + 1, p => mvN n (mvA p.1, mvB p.1 p.2)
theorem mvN_succ : ∀ (n : Nat) (p : Nat × Nat), mvN (n + 1) p = (mvA (mvN n p).1, mvB (mvN n p).1 (mvN n p).2)
  | 0, p => rfl
  | n + 1, p => by rw [show mvN (n + 1 + 1) p = mvN (n + 1) (mvA p.1, mvB p.1 p.2) from rfl, mvN_succ n]; rfl
theorem mvN_lt : ∀ (n : Nat) (p : Nat × Nat), p.1 < 18446744073709551616 → p.2 < 18446744073709551616 → (mvN n p).1 < 18446744073709551616 ∧ (mvN n p).2 < 18446744073709551616
  | 0, p, h1, h2 => ⟨h1, h2⟩
  | n + 1, p, h1, h2 => mvN_lt n _ (mvA_lt _) (mvB_lt h1 _)
theorem mvN_bits : ∀ (n : Nat) (a b : Nat), a < 18446744073709551616 → b < 18446744073709551616 → ∀ j, j < 128 → wbF (mvN n (a, b)).1 (mvN n (a, b)).2 j = (decide (n ≤ j) && wbF a b (j - n))
  | 0, a, b, ha, hb, j, hj => by simp [mvN]
  | n + 1, a, b, ha, hb, j, hj => by
    rw [show mvN (n + 1) (a, b) = mvN n (mvA a, mvB a b) from rfl, mvN_bits n _ _ (mvA_lt a) (mvB_lt ha b) j hj]
    by_cases h : n ≤ j
    · rw [mv_bits ha _ (by omega), decide_eq_true h, Bool.true_and, show j - n - 1 = j - (n + 1) by omega]
      congr 1
      exact decide_eq_decide.2 (by omega)
    · rw [decide_eq_false h, decide_eq_false (by omega : ¬ n + 1 ≤ j)]
      rfl
end Go.Proofs.YtliiofjcghdjoaaDoor

/- Which numbers may come, by the bits of two words: plain mathematics. No program's text is named. -/
namespace Go.Proofs.YtliiofjcghdjoaaDoor
set_option linter.unusedSimpArgs false
set_option linter.unusedVariables false

theorem Wn.none : Wn [] 0 0 := ⟨by decide, by decide, fun j hj => by simp [wbF]⟩
theorem wb_or {a b c d : Nat} (j : Nat) : wbF (a ||| c) (b ||| d) j = (wbF a b j || wbF c d j) := by
  unfold wbF
  split <;> simp [Nat.testBit_or]
/-- One bit alone. -/
theorem wb_one (d j : Nat) : wbF (if d < 64 then 2 ^ d else 0) (if d < 64 then 0 else 2 ^ (d - 64)) j = true ↔ j = d := by
  unfold wbF
  by_cases h : d < 64
  · rw [if_pos h, if_pos h]
    split
    · rw [Nat.testBit_two_pow]
      simp
      omega
    · simp
      omega
  · rw [if_neg h, if_neg h]
    split
    · simp
      omega
    · rw [Nat.testBit_two_pow]
      simp
      omega
/-- A number that is not above the greatest one. -/
theorem Wn.check {l : List Nat} {a b : Nat} (h : Wn l a b) {n : Nat} (h1 : n ≤ tpN l) : cmE l n = if 128 ≤ tpN l - n then 43 else if wbF a b (tpN l - n) = true then 43 else 0 := by
  unfold cmE
  by_cases h2 : 128 ≤ tpN l - n
  · rw [if_pos h2]
    split
    · rfl
    · rw [if_pos ⟨by omega, h2⟩]
  · rw [if_neg h2]
    have hb := h.bits (tpN l - n) (by omega)
    have e : tpN l - (tpN l - n) = n := by omega
    rw [e] at hb
    by_cases h3 : n ∈ l
    · rw [if_pos h3, if_pos (hb.2 ⟨by omega, h3⟩)]
    · rw [if_neg h3, if_neg (fun h => h2 h.2), if_neg (fun h => h3 (hb.1 h).2)]
/-- One above all. -/
theorem cm_above {l : List Nat} {n : Nat} (h : tpN l < n) : cmE l n = 0 := by
  unfold cmE
  rw [if_neg (fun h1 => by have := tpN_ge h1; omega), if_neg (by omega)]
theorem cm_none (n : Nat) : cmE [] n = 0 := by
  unfold cmE
  simp [tpN]
theorem Wn.first (n : Nat) : Wn [n] 1 0 := by
  refine ⟨by decide, by decide, fun j hj => ?_⟩
  have e : tpN [n] = n := by simp [tpN]
  rw [e]
  have h := wb_one 0 j
  simp only [show (0 : Nat) < 64 from by decide, if_true, Nat.pow_zero] at h
  rw [h]
  constructor
  · rintro rfl
    simp
  · rintro ⟨h1, h2⟩
    simp at h2
    omega
/-- A number that comes within the window. -/
theorem Wn.mark {l : List Nat} {a b n : Nat} (h : Wn l a b) (h1 : n ≤ tpN l) (h2 : tpN l - n < 128) :
    Wn (l ++ [n]) (a ||| (if tpN l - n < 64 then 2 ^ (tpN l - n) else 0)) (b ||| (if tpN l - n < 64 then 0 else 2 ^ (tpN l - n - 64))) ∧ tpN (l ++ [n]) = tpN l := by
  have ht : tpN (l ++ [n]) = tpN l := by rw [tpN_snoc]; omega
  refine ⟨⟨?_, ?_, fun j hj => ?_⟩, ht⟩
  · rw [← two64]
    refine Nat.or_lt_two_pow (by rw [two64]; exact h.lo) ?_
    split
    · exact Nat.pow_lt_pow_right (by decide) (by assumption)
    · exact Nat.pow_pos (by decide)
  · rw [← two64]
    refine Nat.or_lt_two_pow (by rw [two64]; exact h.hi) ?_
    split
    · exact Nat.pow_pos (by decide)
    · exact Nat.pow_lt_pow_right (by decide) (by omega)
  · rw [wb_or, Bool.or_eq_true, wb_one, h.bits j hj, ht, List.mem_append, List.mem_singleton]
    constructor
    · rintro (⟨h3, h4⟩ | h3)
      · exact ⟨h3, .inl h4⟩
      · exact ⟨by omega, .inr (by omega)⟩
    · rintro ⟨h3, h4 | h4⟩
      · exact .inl ⟨h3, h4⟩
      · exact .inr (by omega)
/-- A number above all: the bits move. -/
theorem Wn.up {l : List Nat} {a b n k : Nat} (h : Wn l a b) (h1 : tpN l < n) (hk : k = n - tpN l ∨ (128 ≤ k ∧ 128 ≤ n - tpN l)) :
    Wn (l ++ [n]) ((mvN k (a, b)).1 ||| 1) (mvN k (a, b)).2 ∧ tpN (l ++ [n]) = n := by
  have ht : tpN (l ++ [n]) = n := by rw [tpN_snoc]; omega
  have hlt := mvN_lt k (a, b) h.lo h.hi
  refine ⟨⟨?_, hlt.2, fun j hj => ?_⟩, ht⟩
  · rw [← two64]
    exact Nat.or_lt_two_pow (by rw [two64]; exact hlt.1) (by decide)
  · have e1 : wbF ((mvN k (a, b)).1 ||| 1) (mvN k (a, b)).2 j = wbF ((mvN k (a, b)).1 ||| 1) ((mvN k (a, b)).2 ||| 0) j := by rw [Nat.or_zero]
    have h5 := wb_one 0 j
    simp only [show (0 : Nat) < 64 from by decide, if_true, Nat.pow_zero] at h5
    rw [e1, wb_or, Bool.or_eq_true, h5, mvN_bits k a b h.lo h.hi j hj, ht, List.mem_append, List.mem_singleton, Bool.and_eq_true, decide_eq_true_eq]
    constructor
    · rintro (⟨h3, h4⟩ | rfl)
      · have h6 := (h.bits (j - k) (by omega)).1 h4
        rcases hk with rfl | hk
        · refine ⟨by omega, .inl ?_⟩
          rw [show n - j = tpN l - (j - (n - tpN l)) by omega]
          exact h6.2
        · omega
      · exact ⟨by omega, .inr rfl⟩
    · rintro ⟨h3, h4 | h4⟩
      · have h6 := tpN_ge h4
        left
        rcases hk with rfl | hk
        · refine ⟨by omega, (h.bits (j - (n - tpN l)) (by omega)).2 ⟨by omega, ?_⟩⟩
          rw [show tpN l - (j - (n - tpN l)) = n - j by omega]
          exact h4
        · omega
      · right
        omega
theorem tpN_congr {l m : List Nat} (h : ∀ x, x ∈ l ↔ x ∈ m) : tpN l = tpN m := by
  have key : ∀ {l m : List Nat}, (∀ x, x ∈ l ↔ x ∈ m) → tpN l ≤ tpN m := fun {l m} h => by
    by_cases h0 : l = []
    · subst h0
      simp [tpN]
    · exact tpN_ge ((h _).1 (tpN_mem h0))
  exact Nat.le_antisymm (key h) (key fun x => (h x).symm)
/-- Which numbers may come hangs on which came alone. -/
theorem cm_congr {l m : List Nat} (h : ∀ x, x ∈ l ↔ x ∈ m) (n : Nat) : cmE l n = cmE m n := by
  unfold cmE
  rw [tpN_congr h]
  by_cases h1 : n ∈ l
  · rw [if_pos h1, if_pos ((h n).1 h1)]
  · rw [if_neg h1, if_neg fun h2 => h1 ((h n).2 h2)]
/-- Near to one another each one may come that didn't. -/
theorem cm_near {l : List Nat} {n B : Nat} (hl : ∀ x ∈ l, B ≤ x ∧ x < B + 128) (hn : B ≤ n) : cmE l n = if n ∈ l then 43 else 0 := by
  unfold cmE
  by_cases h1 : n ∈ l
  · rw [if_pos h1, if_pos h1]
  · rw [if_neg h1, if_neg h1]
    by_cases h0 : l = []
    · subst h0
      simp [tpN]
    · have := hl _ (tpN_mem h0)
      rw [if_neg (by omega)]
theorem mk_mem (l : List Nat) (n x : Nat) : x ∈ (mkL l n).1 ↔ x ∈ l ∨ (x = n ∧ cmE l n = 0) := by
  unfold mkL
  by_cases h : cmE l n = 0
  · rw [if_pos h]
    simp [h]
  · rw [if_neg h]
    simp [h]
/-- Did any come? -/
theorem Wn.some {l : List Nat} {a b : Nat} (h : Wn l a b) : wbF a b 0 = decide (0 < l.length) := by
  have h1 := h.bits 0 (by decide)
  rw [Bool.eq_iff_iff, h1, decide_eq_true_eq]
  constructor
  · rintro ⟨-, h2⟩
    exact List.length_pos_of_mem h2
  · intro h2
    exact ⟨Nat.zero_le _, tpN_mem (List.length_pos_iff.1 h2)⟩
end Go.Proofs.YtliiofjcghdjoaaDoor

/- What is sealed is opened again, and how long what is mixed is: plain mathematics. No program's text is named. -/
namespace Go.Proofs.YtliiofjcghdjoaaDoor
set_option linter.unusedSimpArgs false
set_option linter.unusedVariables false

theorem seL_len (k n a t : List UInt8) : (seL k n a t).length = t.length + 16 := by
  unfold seL
  rw [List.length_append, smL_length, show (tgL k n a (smL k 1 n t)).length = 16 from mcP_length _ _]
theorem opQ_seL (k n a t : List UInt8) : opQ k n a (seL k n a t) = (t, 0) := by
  have e1 : (seL k n a t).length - 16 = (smL k 1 n t).length := by rw [seL_len, smL_length]; omega
  have e2 : (seL k n a t).take (smL k 1 n t).length = smL k 1 n t := by unfold seL; rw [List.take_left]
  have e3 : (seL k n a t).drop (smL k 1 n t).length = tgL k n a (smL k 1 n t) := by unfold seL; rw [List.drop_left]
  unfold opQ
  rw [if_neg (by rw [seL_len]; omega), e1, e2, e3, if_pos rfl, smL_twice]
theorem nwH_length (s : List UInt8) : (nwH s).length = 32 := by
  unfold nwH
  split
  · exact s2L_length _
  · rw [List.length_append, List.length_replicate]; omega
/-- What a state with a key seals, its like opens. -/
theorem opS_seS (s : Sta) (t : List UInt8) (hk : s.c.key.length = 32) (hn : s.c.n ≠ 18446744073709551615) : seS s t = (⟨s.ck, s2L (s.h ++ seL s.c.key (ncL s.c.n) s.h t), ⟨s.c.key, s.c.n + 1⟩⟩, seL s.c.key (ncL s.c.n) s.h t, 0) ∧ opS s (seL s.c.key (ncL s.c.n) s.h t) = (⟨s.ck, s2L (s.h ++ seL s.c.key (ncL s.c.n) s.h t), ⟨s.c.key, s.c.n + 1⟩⟩, t, 0) := by
  have e1 : seC s.c s.h t = (⟨s.c.key, s.c.n + 1⟩, seL s.c.key (ncL s.c.n) s.h t, 0) := by
    unfold seC
    rw [if_neg (by omega), if_neg (by omega), if_neg hn]
  have e2 : opC s.c s.h (seL s.c.key (ncL s.c.n) s.h t) = (⟨s.c.key, s.c.n + 1⟩, t, 0) := by
    unfold opC
    rw [if_neg (by omega), if_neg (by omega), if_neg hn, opQ_seL, if_pos rfl]
  refine ⟨?_, ?_⟩
  · unfold seS
    rw [e1, if_pos rfl]
  · unfold opS
    rw [e2, if_pos rfl]
/-- A state as a script may leave it. -/
structure Sound (s : Sta) : Prop where
  ck : s.ck.length = 32
  h : s.h.length = 32
  key : s.c.key.length = 0 ∨ s.c.key.length = 32
  n : s.c.n < 18446744073709551616
theorem Sound.nw (l : List UInt8) : Sound (nwS l) := ⟨nwH_length l, nwH_length l, .inl rfl, by show 0 < _; omega⟩
theorem Sound.mx {s : Sta} (h : Sound s) (i : List UInt8) : Sound (mkS s i) := ⟨mcF_length _ _, h.h, .inr (mcF_length _ _), by show 0 < _; omega⟩
theorem Sound.mb {s : Sta} (h : Sound s) (i : List UInt8) : Sound (mbS s i) := ⟨mcF_length _ _, s2L_length _, .inr (mcF_length _ _), by show 0 < _; omega⟩
theorem Sound.mh {s : Sta} (h : Sound s) (i : List UInt8) : Sound (mhS s i) := ⟨h.ck, s2L_length _, h.key, h.n⟩
theorem Sound.put {s : Sta} (h : Sound s) (n : Nat) (hn : n < 18446744073709551616) : Sound ⟨s.ck, s.h, ⟨s.c.key, n⟩⟩ := ⟨h.ck, h.h, h.key, hn⟩
theorem seC_facts (c : Cph) (a t : List UInt8) (hn : c.n < 18446744073709551616) : (seC c a t).1.key = c.key ∧ (seC c a t).1.n < 18446744073709551616 ∧ (seC c a t).2.1.length ≤ t.length + 16 := by
  unfold seC
  split
  · exact ⟨rfl, hn, by show t.length ≤ _; omega⟩
  · split
    · exact ⟨rfl, hn, by show 0 ≤ _; omega⟩
    · split
      · exact ⟨rfl, hn, by show 0 ≤ _; omega⟩
      · refine ⟨rfl, ?_, ?_⟩
        · show c.n + 1 < _; omega
        · show (seL _ _ _ _).length ≤ _; rw [seL_len]; omega
theorem opQ_len (k n a s : List UInt8) : (opQ k n a s).1.length ≤ s.length := by
  unfold opQ
  split
  · show 0 ≤ _; omega
  · split
    · show (smL _ _ _ _).length ≤ _; rw [smL_length, List.length_take]; omega
    · show 0 ≤ _; omega
theorem opC_facts (c : Cph) (a t : List UInt8) (hn : c.n < 18446744073709551616) : (opC c a t).1.key = c.key ∧ (opC c a t).1.n < 18446744073709551616 ∧ (opC c a t).2.1.length ≤ t.length := by
  unfold opC
  split
  · exact ⟨rfl, hn, Nat.le_refl _⟩
  · split
    · exact ⟨rfl, hn, by show 0 ≤ _; omega⟩
    · split
      · exact ⟨rfl, hn, by show 0 ≤ _; omega⟩
      · split
        · refine ⟨rfl, ?_, opQ_len _ _ _ _⟩
          show c.n + 1 < _; omega
        · exact ⟨rfl, hn, by show 0 ≤ _; omega⟩
theorem Sound.se {s : Sta} (h : Sound s) (t : List UInt8) : Sound (seS s t).1 := by
  obtain ⟨h1, h2, -⟩ := seC_facts s.c s.h t h.n
  unfold seS
  split
  · exact ⟨h.ck, s2L_length _, by show (seC s.c s.h t).1.key.length = 0 ∨ (seC s.c s.h t).1.key.length = 32; rw [h1]; exact h.key, h2⟩
  · exact h
theorem Sound.op {s : Sta} (h : Sound s) (t : List UInt8) : Sound (opS s t).1 := by
  obtain ⟨h1, h2, -⟩ := opC_facts s.c s.h t h.n
  unfold opS
  split
  · exact ⟨h.ck, s2L_length _, by show (opC s.c s.h t).1.key.length = 0 ∨ (opC s.c s.h t).1.key.length = 32; rw [h1]; exact h.key, h2⟩
  · exact h
theorem seS_len (s : Sta) (t : List UInt8) (hn : s.c.n < 18446744073709551616) : (seS s t).2.1.length ≤ t.length + 16 := by
  unfold seS
  split
  · exact (seC_facts _ _ _ hn).2.2
  · show 0 ≤ _; omega
end Go.Proofs.YtliiofjcghdjoaaDoor

/- What sealing and opening leave of a cipher: plain mathematics. No program's text is named. -/
namespace Go.Proofs.YtliiofjcghdjoaaDoor
set_option linter.unusedSimpArgs false
set_option linter.unusedVariables false

theorem seC_kept (c : Cph) (ad t : List UInt8) : (seC c ad t).1.key = c.key := by
  unfold seC
  split
  · rfl
  · split
    · rfl
    · split <;> rfl
theorem seC_err {c : Cph} {ad t : List UInt8} (h : (seC c ad t).2.2 ≠ 0) : (seC c ad t).1 = c := by
  unfold seC at h ⊢
  split
  · rfl
  · split
    · rfl
    · split
      · rfl
      · rename_i h1 h2 h3
        rw [if_neg h1, if_neg h2, if_neg h3] at h
        exact absurd rfl h
theorem seC_lt {c : Cph} (ad t : List UInt8) (h : c.n < 18446744073709551616) : (seC c ad t).1.n < 18446744073709551616 := by
  unfold seC
  split
  · exact h
  · split
    · exact h
    · split
      · exact h
      · show c.n + 1 < _
        omega
/-- What was sealed is opened again, with its number. -/
theorem opC_seC (c : Cph) (t : List UInt8) (h : (seC c [] t).2.2 = 0) : (opC ⟨c.key, c.n⟩ [] (seC c [] t).2.1).2 = (t, 0) := by
  unfold seC at h ⊢
  unfold opC
  split
  · rfl
  · rename_i h1
    rw [if_neg h1] at h
    split
    · rename_i h2
      rw [if_pos h2] at h
      exact absurd h (by simp)
    · rename_i h2
      rw [if_neg h2] at h
      split
      · rename_i h3
        rw [if_pos h3] at h
        exact absurd h (by simp)
      · show (if (opQ c.key (ncL c.n) [] (seL c.key (ncL c.n) [] t)).2 = 0 then _ else _ : Cph × List UInt8 × Int).2 = _
        rw [opQ_seL]
        rfl
theorem ssS_ok {r : Rl} {s : Ses} {t : List UInt8} {now : Nat} (hr : RlW r) (hs : SesW s) : SesW (ssS r s t now).1 := by
  unfold ssS
  split
  · exact hs
  · rename_i h1
    split
    · exact hs
    · exact ⟨seC_lt _ _ hs.sn, hs.rn, hs.born, exB_sent hr (by simpa using h1), hs.came⟩
theorem mkL_lt {l : List Nat} {n : Nat} (hl : ∀ x ∈ l, x < 18446744073709551616) (hn : n < 18446744073709551616) : ∀ x ∈ (mkL l n).1, x < 18446744073709551616 := by
  unfold mkL
  split
  · intro x hx
    rcases List.mem_append.1 hx with h | h
    · exact hl x h
    · rw [List.mem_singleton.1 h]; exact hn
  · exact hl
theorem ssO_ok {r : Rl} {s : Ses} {b : List UInt8} {n now : Nat} (hs : SesW s) (hn : n < 18446744073709551616) : SesW (ssO r s n b now).1 := by
  unfold ssO
  split
  · exact hs
  · split
    · exact hs
    · split
      · exact hs
      · exact ⟨hs.sn, hs.rn, hs.born, hs.sent, mkL_lt hs.came hn⟩
end Go.Proofs.YtliiofjcghdjoaaDoor

/- Rows that grow by one, all their cells told; bytes stay where no cell that is written is one. No program's text is named. -/
namespace Go.Proofs.YtliiofjcghdjoaaDoor
open Go.ChangeShapes Go.WideShapes Go.ChangeAt Go.RowKit
set_option linter.unusedSimpArgs false
set_option linter.unusedVariables false

/-- All bytes stay. -/
def K8 (w w' : World) : Prop := ∀ b o x, w.cell? ⟨b, o, none⟩ = some (.int .u8 x) → w'.cell? ⟨b, o, none⟩ = some (.int .u8 x)
theorem K8.refl (w : World) : K8 w w := fun _ _ _ h => h
theorem K8.trans {a b c : World} (h : K8 a b) (k : K8 b c) : K8 a c := fun _ _ _ e => k _ _ _ (h _ _ _ e)
theorem K8.of_below {w w' : World} (h : Below w.heap.size w w') : K8 w w' := fun b o x e => by
  rw [h.cell (World.block_lt_of_cell? _ _ e)]
  exact e
theorem K8.of_chg {S : Nat → Prop} {w w' : World} (c : Chg S w w') (hS : ∀ b, S b → ∀ o x, w.cell? ⟨b, o, none⟩ ≠ some (.int .u8 x)) : K8 w w' := fun b o x e => by
  have hb : ¬ S b := fun h => hS b h o x e
  rw [World.cell?_of_block (w := w) (c.block b (World.block_lt_of_cell? _ _ e) hb)]
  exact e
theorem K8.blk {g : Nat} {ty : TypeId} {cs : List Value} {w w' : World} (hb : BlkAt g ty cs w) (hn : No8 cs) (c : Chg (fun b => b = g) w w') : K8 w w' := K8.of_chg c fun b h o x e => by
  subst h
  rw [hb.cell] at e
  exact hn _ _ e
theorem Rd.k8 {w w' : World} {v : Value} {l : List UInt8} (h : Rd w v l) (k : K8 w w') : Rd w' v l := by
  obtain ⟨a, c, e1, h2, h3, h4, h5⟩ := h
  refine ⟨a, c, e1, h2, h3, h4, h5.imp id ?_⟩
  rintro ⟨b, off, e2, hc⟩
  exact ⟨b, off, e2, fun i hi => k _ _ _ (hc i hi)⟩

theorem zeroC {z : Value} (h : z.cells = #[z]) (n : Nat) : Builtin.zeroCells z.cells n = (List.replicate n z).toArray := by
  rw [h]
  unfold Builtin.zeroCells
  apply Array.ext
  · simp
  · intro i h1 h2
    simp [Nat.mod_one]
/-- A row of one's own, what is behind its end told too. -/
def Zr (e : TypeId) (z : Value) (base : Nat) (v : Value) (xs : List Value) (w : World) : Prop :=
  (v = .slice none 0 0 ∧ xs = []) ∨ ∃ g cap, v = .slice (some ⟨g, 0, none⟩) xs.length cap ∧ base ≤ g ∧ xs.length ≤ cap ∧ cap ≤ maxLen ∧ BlkAt g e (xs ++ List.replicate (cap - xs.length) z) w
theorem Zr.nil (e : TypeId) (z : Value) (base : Nat) (w : World) : Zr e z base (.slice none 0 0) [] w := .inl ⟨rfl, rfl⟩
theorem Zr.kept {e : TypeId} {z : Value} {base : Nat} {v : Value} {xs : List Value} {w w' : World} (h : Zr e z base v xs w) (hb : Below w.heap.size w w') : Zr e z base v xs w' := by
  rcases h with h | ⟨g, cap, h1, h2, h3, h4, h5⟩
  · exact .inl h
  · exact .inr ⟨g, cap, h1, h2, h3, h4, h5.kept hb⟩
theorem Zr.ne {e ty : TypeId} {z : Value} {base : Nat} {v : Value} {xs cs : List Value} {g : Nat} {w : World} (h : Zr e z base v xs w) (hb : BlkAt g ty cs w) (hne : e ≠ ty) : ∀ b, v.ownBlock = some b → b ≠ g := by
  rcases h with ⟨rfl, -⟩ | ⟨g', cap, rfl, h2, h3, h4, h5⟩
  · intro b hb; simp [Value.ownBlock] at hb
  · intro b hb' e1
    have h6 : g' = b := by simpa [Value.ownBlock] using hb'
    subst e1 h6
    unfold BlkAt at hb h5
    rw [hb] at h5
    simp at h5
    exact hne h5.2.symm
theorem Zr.ne2 {e e2 : TypeId} {z z2 : Value} {base base2 : Nat} {v v2 : Value} {xs xs2 : List Value} {w : World} (h : Zr e z base v xs w) (h2 : Zr e2 z2 base2 v2 xs2 w) (hne : e ≠ e2) : ∀ b, v.ownBlock = some b → v2.ownBlock ≠ some b := by
  rcases h2 with ⟨rfl, -⟩ | ⟨g', cap, rfl, -, h3, h4, h5⟩
  · intro b hb; simp [Value.ownBlock]
  · intro b hb' e1
    have h6 : g' = b := by simpa [Value.ownBlock] using e1
    exact h.ne h5 hne b hb' h6.symm
theorem Zr.lt {e : TypeId} {z : Value} {base : Nat} {v : Value} {xs : List Value} {w : World} (h : Zr e z base v xs w) : ∀ b, v.ownBlock = some b → base ≤ b ∧ b < w.heap.size := by
  rcases h with ⟨rfl, -⟩ | ⟨g', cap, rfl, h2, h3, h4, h5⟩
  · intro b hb; simp [Value.ownBlock] at hb
  · intro b hb
    have h6 : g' = b := by simpa [Value.ownBlock] using hb
    subst h6
    exact ⟨h2, h5.lt⟩
theorem Zr.chg {e : TypeId} {z : Value} {base : Nat} {v : Value} {xs : List Value} {S : Nat → Prop} {w w' : World} (h : Zr e z base v xs w) (c : Chg S w w') (hS : ∀ b, v.ownBlock = some b → ¬ S b) : Zr e z base v xs w' := by
  rcases h with h | ⟨g, cap, rfl, h2, h3, h4, h5⟩
  · exact .inl h
  · exact .inr ⟨g, cap, rfl, h2, h3, h4, h5.chg c (hS g rfl)⟩
/-- Where its element lies. -/
theorem Zr.at {e : TypeId} {z : Value} {base : Nat} {v : Value} {xs : List Value} {w : World} (h : Zr e z base v xs w) {i : Nat} (hi : i < xs.length) : ∃ g cap, v = .slice (some ⟨g, 0, none⟩) xs.length cap ∧ xs.length ≤ cap ∧ cap ≤ maxLen ∧ w.cell? ⟨g, i, none⟩ = some (xs.getD i undef) := by
  rcases h with ⟨-, rfl⟩ | ⟨g, cap, rfl, h2, h3, h4, h5⟩
  · simp at hi
  · refine ⟨g, cap, rfl, h3, h4, ?_⟩
    rw [h5.cell, List.getElem?_append_left hi]
    simp [hi]
theorem Zr.form {e : TypeId} {z : Value} {base : Nat} {v : Value} {xs : List Value} {w : World} (h : Zr e z base v xs w) : ∃ a c, v = .slice a xs.length c ∧ xs.length ≤ c ∧ c ≤ maxLen := by
  rcases h with ⟨rfl, rfl⟩ | ⟨g, cap, rfl, h2, h3, h4, h5⟩
  · exact ⟨none, 0, rfl, Nat.le_refl _, Nat.zero_le _⟩
  · exact ⟨_, _, rfl, h3, h4⟩
theorem Zr.no8 {e : TypeId} {z : Value} {base : Nat} {v : Value} {xs : List Value} {w : World} (h : Zr e z base v xs w) (hx : ∀ y ∈ xs, ∀ k, y ≠ .int .u8 k) (hz : ∀ k, z ≠ .int .u8 k) : ∀ b, some b = v.ownBlock → ∀ o x, w.cell? ⟨b, o, none⟩ ≠ some (.int .u8 x) := by
  rcases h with ⟨rfl, -⟩ | ⟨g', cap, rfl, h2, h3, h4, h5⟩
  · intro b hb; simp [Value.ownBlock] at hb
  · intro b hb o x hc
    have h6 : b = g' := by simpa [Value.ownBlock] using hb
    subst h6
    rw [h5.cell] at hc
    rcases List.mem_append.1 (List.mem_of_getElem? hc) with h | h
    · exact hx _ h _ rfl
    · exact hz _ (List.eq_of_mem_replicate h).symm

/-- One element more. -/
theorem wp_append_Z {P : Program} {base : Nat} {wr : World} {o : Oper} {a : Act} {K : Act → World → Prop} {Q : Exit → Act → World → Prop} (s x : Operand) (t : TypeId)
    (ho : o.op = .call { callee := .builtin .append, args := #[s, x], argTypes := #[t, t] }) (e : TypeId) (i : TypeInfo) (z : Value) (ht : P.underlying t = some (.slice e)) (hi : P.info? e = some i) (hz : i.zero = some z)
    (hsize : i.size = 1) (hby : i.bytes ≤ 100) (hzc : z.cells = #[z]) (v : Value) (xs : List Value) (hs : a.eval s = v) (hO : Zr e z base v xs wr) (hbase : base ≤ wr.heap.size) (hlen : xs.length ≤ 1000000)
    (g' c : Nat) (u : Value) (hx : a.eval x = .slice (some ⟨g', 0, none⟩) 1 c) (hu : wr.cell? ⟨g', 0, none⟩ = some u) (h1 : u.oneCell' = true) (hx8 : ∀ y ∈ xs, ∀ k, y ≠ .int .u8 k) (hz8 : ∀ k, z ≠ .int .u8 k)
    (h : ∀ v' w', Zr e z base v' (xs ++ [u]) w' → Chg (fun b => some b = v.ownBlock) wr w' → K8 wr w' → (v'.ownBlock = v.ownBlock ∨ ∀ b, v'.ownBlock = some b → wr.heap.size ≤ b) → K (a.put o.dst v') w') : o.wp P a wr K Q := by
  have hnews : ∀ j y, [u][j]? = some y → wr.cell? ((⟨g', 0, none⟩ : Addr).add j) = some y := by
    intro j y hj
    match j with
    | 0 => simp at hj; subst hj; simpa [Addr.add] using hu
    | j + 1 => simp at hj
  have hone : ∀ y ∈ [u], y.oneCell' = true := by simpa using h1
  have key : ∀ (v' : Value) (w' : World), (Builtin.append_ #[t, t] o.type #[v, .slice (some ⟨g', 0, none⟩) 1 c]).run P wr = .ok v' w' → (Zr e z base v' (xs ++ [u]) w' ∧ Chg (fun b => some b = v.ownBlock) wr w' ∧ (v'.ownBlock = v.ownBlock ∨ ∀ b, v'.ownBlock = some b → wr.heap.size ≤ b)) → o.wp P a wr K Q := by
    intro v' w' hr hq
    unfold Oper.wp execOp
    simp only [ho, resolve, invoke, builtin, Sem.run_bind, Sem.run_pure, Result.andThen_ok, List.map_toArray, List.map_cons, List.map_nil, hs, hx, hr]
    exact h v' w' hq.1 hq.2.1 (K8.of_chg hq.2.1 fun b hb => hO.no8 hx8 hz8 b hb) hq.2.2
  have hnew : ∀ (old n cap : Nat), xs.length + 1 = n → n ≤ cap → cap ≤ maxLen → Zr e z base (.slice (some ⟨wr.heap.size, 0, none⟩) n cap) (xs ++ [u]) (wr.drew.alloc (.cells (xs.toArray ++ [u].toArray ++ Builtin.zeroCells z.cells (cap - n)) e)) ∧ Chg (fun b => some b = v.ownBlock) wr (wr.drew.alloc (.cells (xs.toArray ++ [u].toArray ++ Builtin.zeroCells z.cells (cap - n)) e)) := by
    intro old n cap hn hc hm
    subst hn
    refine ⟨.inr ⟨wr.heap.size, cap, by simp, hbase, by simpa using hc, hm, ?_⟩, Chg.of_below (stepB (Below.refl _ wr).drew (growB _))⟩
    have hcs : (xs.toArray ++ [u].toArray ++ Builtin.zeroCells z.cells (cap - (xs.length + 1))) = ((xs ++ [u]) ++ List.replicate (cap - (xs ++ [u]).length) z).toArray := by
      rw [zeroC hzc]
      simp
    rw [hcs]
    exact heap_alloc_new wr.drew _
  rcases id hO with ⟨rfl, rfl⟩ | ⟨g, cap, rfl, hbg, hlc, hcm, hB⟩
  · have hr := run_append_nil (P := P) wr t o.type e i z ht hi hz ⟨g', 0, none⟩ 1 c [u] (by rw [hsize]; rfl) hnews (by omega) (by omega) (by omega)
    have hge := grownCap_ge wr 1 0 e
    have hn := hnew 0 1 (grownCap wr 1 0 e) rfl hge (grownCap_le_maxLen wr 1 0 e (by simp [maxLen]))
    have e1 : (([] : List Value).toArray ++ [u].toArray ++ Builtin.zeroCells z.cells (grownCap wr 1 0 e - 1)) = [u].toArray ++ Builtin.zeroCells z.cells (grownCap wr 1 0 e - 1) := by simp
    rw [e1] at hn
    exact key _ _ hr ⟨hn.1, hn.2, .inr fun b hb => by simp [Value.ownBlock] at hb; omega⟩
  · by_cases hroom : xs.length + 1 ≤ cap
    · have hg : wr.heap[g]? = some (.cells (xs ++ List.replicate (cap - xs.length) z).toArray e (0, 0)) := hB
      have hr := run_append_room (P := P) wr t o.type e i ht hi g xs.length cap _ hg ⟨g', 0, none⟩ 1 c [u] (by rw [hsize]; rfl) hnews hone hroom (by rw [hsize]; simp; omega)
      refine key _ _ hr ⟨.inr ⟨g, cap, by simp, hbg, by simpa using hroom, hcm, ?_⟩, ⟨rfl, rfl, rfl, by simp [World.setRow], fun k _ hk => setRow_other wr g k _ (fun e => hk (by simp [Value.ownBlock, e]))⟩, .inl rfl⟩
      have e1 : (xs ++ List.replicate (cap - xs.length) z).toArray.toList.take (xs.length * i.size) ++ [u] ++ (xs ++ List.replicate (cap - xs.length) z).toArray.toList.drop (xs.length * i.size + [u].length) = (xs ++ [u]) ++ List.replicate (cap - (xs ++ [u]).length) z := by
        rw [hsize, Nat.mul_one]
        simp [List.drop_append]
        rw [List.drop_eq_nil_of_le (by omega), Nat.sub_sub, List.nil_append]
      rw [e1]
      exact setRow_heap wr g _ _ e _ hg
    · have holds : ∀ j y, xs[j]? = some y → wr.cell? ((⟨g, 0, none⟩ : Addr).add j) = some y := by
        intro j y hj
        have hjl : j < xs.length := by
          rcases Nat.lt_or_ge j xs.length with h | h
          · exact h
          · rw [List.getElem?_eq_none h] at hj; cases hj
        have : (⟨g, 0, none⟩ : Addr).add j = ⟨g, j, none⟩ := by unfold Addr.add; split <;> simp_all
        rw [this, hB.cell, List.getElem?_append_left hjl]
        exact hj
      have hr := run_append_grow (P := P) wr t o.type e i z ht hi hz ⟨g, 0, none⟩ xs.length cap xs (by rw [hsize, Nat.mul_one]) holds ⟨g', 0, none⟩ 1 c [u] (by rw [hsize]; rfl) hnews (by omega) (by omega) (growslice_fits (by omega) (by
        have := Nat.mul_le_mul (show xs.length + 1 ≤ 1000001 by omega) hby
        omega))
      have hge := grownCap_ge wr (xs.length + 1) cap e
      have hn := hnew cap (xs.length + 1) (grownCap wr (xs.length + 1) cap e) rfl hge (grownCap_le_maxLen wr (xs.length + 1) cap e (by simp [maxLen]; omega))
      exact key _ _ hr ⟨hn.1, hn.2, .inr fun b hb => by simp [Value.ownBlock] at hb; omega⟩
theorem wpList_append_Z {P : Program} {base : Nat} {wr : World} {ops : Array Oper} {rest : List Oper} {o : Oper} {a : Act} {Q : Exit → Act → World → Prop} (hgd : o.guard = none) (s x : Operand) (t : TypeId)
    (ho : o.op = .call { callee := .builtin .append, args := #[s, x], argTypes := #[t, t] }) (e : TypeId) (i : TypeInfo) (z : Value) (ht : P.underlying t = some (.slice e)) (hi : P.info? e = some i) (hz : i.zero = some z)
    (hsize : i.size = 1) (hby : i.bytes ≤ 100) (hzc : z.cells = #[z]) (v : Value) (xs : List Value) (hs : a.eval s = v) (hO : Zr e z base v xs wr) (hbase : base ≤ wr.heap.size) (hlen : xs.length ≤ 1000000)
    (g' c : Nat) (u : Value) (hx : a.eval x = .slice (some ⟨g', 0, none⟩) 1 c) (hu : wr.cell? ⟨g', 0, none⟩ = some u) (h1 : u.oneCell' = true) (hx8 : ∀ y ∈ xs, ∀ k, y ≠ .int .u8 k) (hz8 : ∀ k, z ≠ .int .u8 k)
    (h : ∀ v' w', Zr e z base v' (xs ++ [u]) w' → Chg (fun b => some b = v.ownBlock) wr w' → K8 wr w' → (v'.ownBlock = v.ownBlock ∨ ∀ b, v'.ownBlock = some b → wr.heap.size ≤ b) → wpList P ops Q rest (a.put o.dst v') w') : wpList P ops Q (o :: rest) a wr :=
  wpList_plain hgd fun _ hK => wp_append_Z s x t ho e i z ht hi hz hsize hby hzc v xs hs hO hbase hlen g' c u hx hu h1 hx8 hz8 fun v' w' a1 a2 a3 a4 => hK _ _ (h v' w' a1 a2 a3 a4)
end Go.Proofs.YtliiofjcghdjoaaDoor

/- Numbers one behind the other, and numbers near to one another: plain mathematics. No program's text is named. -/
namespace Go.Proofs.YtliiofjcghdjoaaDoor
set_option linter.unusedSimpArgs false
set_option linter.unusedVariables false

/-- So many numbers, one behind the other. -/
def rwN (b i : Nat) : List Nat := (List.range i).map (b + ·)
theorem rwN_succ (b i : Nat) : rwN b (i + 1) = rwN b i ++ [b + i] := by
  unfold rwN
  rw [List.range_succ, List.map_append]
  rfl
theorem rwN_mem {b i x : Nat} : x ∈ rwN b i ↔ b ≤ x ∧ x < b + i := by
  unfold rwN
  simp only [List.mem_map, List.mem_range]
  constructor
  · rintro ⟨j, h1, rfl⟩
    omega
  · rintro ⟨h1, h2⟩
    exact ⟨x - b, by omega, by omega⟩
theorem rwN_top (b : Nat) : ∀ i, tpN (rwN b (i + 1)) = b + i
  | 0 => by rw [rwN_succ, tpN_snoc]; simp [rwN, tpN]
  | i + 1 => by rw [rwN_succ, tpN_snoc, rwN_top b i]; omega
theorem rwN_cm (b : Nat) : ∀ i, cmE (rwN b i) (b + i) = 0
  | 0 => cm_none _
  | i + 1 => cm_above (by rw [rwN_top]; omega)
theorem mk_ok {l : List Nat} {n : Nat} (h : cmE l n = 0) : mkL l n = (l ++ [n], 0) := by
  unfold mkL
  rw [if_pos h]
theorem rwN_mk (b i : Nat) : mkL (rwN b i) (b + i) = (rwN b (i + 1), 0) := by rw [mk_ok (rwN_cm b i), rwN_succ]
theorem cm_in {l : List Nat} {n : Nat} (h : n ∈ l) : cmE l n = 43 := by unfold cmE; rw [if_pos h]
theorem rwN_again (b i : Nat) : cmE (rwN b (i + 1)) (b + i) = 43 := cm_in (rwN_mem.2 ⟨by omega, by omega⟩)
theorem rwN_step (b k s : Nat) : mkL (rwN b (k + 1)) (b + k + 1 + s) = (rwN b (k + 1) ++ [b + k + 1 + s], 0) := mk_ok (cm_above (by rw [rwN_top]; omega))
theorem rwN_gap (b k s i : Nat) (h : i < s) : cmE (rwN b (k + 1) ++ [b + k + 1 + s]) (b + k + 1 + i) = if 128 ≤ s - i then 43 else 0 := by
  have ht : tpN (rwN b (k + 1) ++ [b + k + 1 + s]) = b + k + 1 + s := by rw [tpN_snoc, rwN_top]; omega
  unfold cmE
  rw [ht, if_neg (by
    intro hm
    rcases List.mem_append.1 hm with h1 | h1
    · have := (rwN_mem.1 h1).2
      omega
    · have := List.mem_singleton.1 h1
      omega)]
  by_cases h2 : 128 ≤ s - i
  · rw [if_pos h2, if_pos ⟨by omega, by omega⟩]
  · rw [if_neg h2, if_neg (by omega)]
theorem rwN_first (b k s : Nat) : cmE (rwN b (k + 1) ++ [b + k + 1 + s]) b = 43 := cm_in (List.mem_append_left _ (rwN_mem.2 ⟨by omega, by omega⟩))
end Go.Proofs.YtliiofjcghdjoaaDoor

/- Numbers near to one another, in any order, and which of them were seen: plain mathematics. No program's text is named. -/
namespace Go.Proofs.YtliiofjcghdjoaaDoor
set_option linter.unusedSimpArgs false
set_option linter.unusedVariables false

/-- The numbers that came are the first so many ones. -/
def NrL (B : Nat) (xs : Nat → Nat) (i : Nat) (l : List Nat) : Prop := ∀ x, x ∈ l ↔ ∃ m, m < i ∧ x = B + xs m
/-- .. the last so many ones of n. -/
def NrD (B : Nat) (xs : Nat → Nat) (n i : Nat) (l : List Nat) : Prop := ∀ x, x ∈ l ↔ ∃ m, n ≤ m + i ∧ m < n ∧ x = B + xs m
theorem mk_near {l : List Nat} {n B : Nat} (hl : ∀ x ∈ l, B ≤ x ∧ x < B + 128) (hn : B ≤ n) : mkL l n = (if n ∈ l then l else l ++ [n], if n ∈ l then 43 else 0) := by
  unfold mkL
  rw [cm_near hl hn]
  by_cases h : n ∈ l
  · rw [if_pos h, if_pos h, if_neg (by decide)]
  · rw [if_neg h, if_neg h, if_pos rfl]
theorem mk_in {l : List Nat} {n B : Nat} (hl : ∀ x ∈ l, B ≤ x ∧ x < B + 128) (hn : B ≤ n) (x : Nat) : x ∈ (mkL l n).1 ↔ x ∈ l ∨ x = n := by
  rw [mk_near hl hn]
  by_cases h : n ∈ l
  · rw [if_pos h]
    exact ⟨.inl, fun h1 => h1.elim id fun e => e ▸ h⟩
  · rw [if_neg h]
    simp
theorem NrL.start (B : Nat) (xs : Nat → Nat) : NrL B xs 0 [] := fun x => by simp
theorem NrL.near {B : Nat} {xs : Nat → Nat} (hx : ∀ m, xs m < 128) {i : Nat} {l : List Nat} (h : NrL B xs i l) : ∀ x ∈ l, B ≤ x ∧ x < B + 128 := by
  intro x hm
  obtain ⟨m, -, rfl⟩ := (h x).1 hm
  have := hx m
  omega
theorem NrL.step {B : Nat} {xs : Nat → Nat} (hx : ∀ m, xs m < 128) {i : Nat} {l : List Nat} (h : NrL B xs i l) : NrL B xs (i + 1) (mkL l (B + xs i)).1 := by
  intro x
  rw [mk_in (h.near hx) (by omega), h x]
  constructor
  · rintro (⟨m, h1, h2⟩ | h1)
    · exact ⟨m, by omega, h2⟩
    · exact ⟨i, by omega, h1⟩
  · rintro ⟨m, h1, h2⟩
    by_cases hm : m = i
    · subst hm
      exact .inr h2
    · exact .inl ⟨m, by omega, h2⟩
theorem NrD.start (B : Nat) (xs : Nat → Nat) (n : Nat) : NrD B xs n 0 [] := fun x => by
  simp
  intro m h1 h2
  omega
theorem NrD.near {B : Nat} {xs : Nat → Nat} (hx : ∀ m, xs m < 128) {n i : Nat} {l : List Nat} (h : NrD B xs n i l) : ∀ x ∈ l, B ≤ x ∧ x < B + 128 := by
  intro x hm
  obtain ⟨m, -, -, rfl⟩ := (h x).1 hm
  have := hx m
  omega
theorem NrD.step {B : Nat} {xs : Nat → Nat} (hx : ∀ m, xs m < 128) {n i k : Nat} {l : List Nat} (h : NrD B xs n i l) (hk : n = k + i + 1) : NrD B xs n (i + 1) (mkL l (B + xs k)).1 := by
  intro x
  rw [mk_in (h.near hx) (by omega), h x]
  constructor
  · rintro (⟨m, h1, h2, h3⟩ | h1)
    · exact ⟨m, by omega, h2, h3⟩
    · exact ⟨k, by omega, by omega, h1⟩
  · rintro ⟨m, h1, h2, h3⟩
    by_cases hm : m = k
    · subst hm
      exact .inr h3
    · exact .inl ⟨m, by omega, h2, h3⟩
theorem nr_same {B : Nat} {xs : Nat → Nat} {n : Nat} {l m : List Nat} (h : NrL B xs n l) (h2 : NrD B xs n n m) : ∀ x, x ∈ l ↔ x ∈ m := by
  intro x
  rw [h x, h2 x]
  constructor
  · rintro ⟨k, h3, h4⟩
    exact ⟨k, by omega, h3, h4⟩
  · rintro ⟨k, -, h3, h4⟩
    exact ⟨k, h3, h4⟩
theorem some_congr {l m : List Nat} (h : ∀ x, x ∈ l ↔ x ∈ m) : decide (0 < l.length) = decide (0 < m.length) := by
  refine decide_eq_decide.2 ⟨fun h1 => ?_, fun h1 => ?_⟩
  · exact List.length_pos_of_mem ((h _).1 (tpN_mem (List.length_pos_iff.1 h1)))
  · exact List.length_pos_of_mem ((h _).2 (tpN_mem (List.length_pos_iff.1 h1)))
/-- Which of n were seen. -/
def snB (n B : Nat) (l : List Nat) : List Bool := (List.range n).map fun k => decide (B + k ∈ l)
theorem snB_length (n B : Nat) (l : List Nat) : (snB n B l).length = n := by simp [snB]
theorem snB_at (n B : Nat) (l : List Nat) {i : Nat} (h : i < (snB n B l).length) : (snB n B l)[i] = decide (B + i ∈ l) := by simp [snB]
theorem snB_none (n B : Nat) : snB n B [] = List.replicate n false := by
  refine List.ext_getElem (by simp [snB]) fun i h1 h2 => ?_
  rw [snB_at]
  simp
theorem snB_get (n B : Nat) (l : List Nat) {k : Nat} (h : k < n) : (snB n B l)[k]? = some (decide (B + k ∈ l)) := by
  rw [List.getElem?_eq_getElem (by rw [snB_length]; exact h), snB_at]
theorem snB_set (n : Nat) {B : Nat} {l : List Nat} (hl : ∀ x ∈ l, B ≤ x ∧ x < B + 128) (k : Nat) : (snB n B l).set k true = snB n B (mkL l (B + k)).1 := by
  refine List.ext_getElem (by rw [List.length_set, snB_length, snB_length]) fun i h1 h2 => ?_
  rw [List.getElem_set]
  by_cases hk : k = i
  · subst hk
    rw [if_pos rfl, snB_at]
    exact (decide_eq_true ((mk_in hl (Nat.le_add_right B k) _).2 (.inr rfl))).symm
  · rw [if_neg hk, snB_at, snB_at]
    refine decide_eq_decide.2 ?_
    rw [mk_in hl (Nat.le_add_right B k)]
    exact ⟨.inl, fun h => h.elim id fun h => absurd (by omega : k = i) hk⟩
end Go.Proofs.YtliiofjcghdjoaaDoor

/- What a session of numbers from 0 on seals, and its like opens: plain mathematics. No program's text is named. -/
namespace Go.Proofs.YtliiofjcghdjoaaDoor
set_option linter.unusedSimpArgs false
set_option linter.unusedVariables false

/-- One byte, sealed with a number. -/
def bxL (key : List UInt8) (k : Nat) (c : UInt8) : List UInt8 := (seC ⟨key, k⟩ [] [c]).2.1
theorem bx_seC {key : List UInt8} (hk : key.length = 32) {k : Nat} (hn : k ≠ 18446744073709551615) (c : UInt8) : seC ⟨key, k⟩ [] [c] = (⟨key, k + 1⟩, bxL key k c, 0) := by
  unfold bxL seC
  rw [if_neg (by show ¬ key.length = 0; omega), if_neg (by show ¬ key.length ≠ 32; omega), if_neg hn]
theorem bx_len {key : List UInt8} (hk : key.length = 32) {k : Nat} (hn : k ≠ 18446744073709551615) (c : UInt8) : (bxL key k c).length = 17 := by
  unfold bxL seC
  rw [if_neg (by show ¬ key.length = 0; omega), if_neg (by show ¬ key.length ≠ 32; omega), if_neg hn]
  show (seL _ _ _ _).length = _
  rw [seL_len]
  rfl
/-- The one that seals, the one that opens. -/
def saS (key : List UInt8) (m : Nat) : Ses := ⟨⟨key, m⟩, ⟨key, 0⟩, 0, m, []⟩
def sbS (key : List UInt8) (came : List Nat) : Ses := ⟨⟨key, 0⟩, ⟨key, 0⟩, 0, 0, came⟩
theorem sn_zero (t : Nat) : snN 0 t = t := by unfold snN; rw [if_neg (by omega)]; rfl
theorem sa_no {r : Rl} {key : List UInt8} {m t : Nat} (c : UInt8) (h : ¬ (t < r.expire ∧ m < r.ecount)) : ssS r (saS key m) [c] t = (saS key m, 0, [], 52) := by
  have hx : exB r (saS key m) t = true := by
    unfold exB saS
    rw [sn_zero]
    simp
    omega
  unfold ssS
  rw [if_pos hx]
theorem sa_ok {r : Rl} {key : List UInt8} (hk : key.length = 32) {m t : Nat} (hm : m < 1000) (c : UInt8) (h : t < r.expire ∧ m < r.ecount) : ssS r (saS key m) [c] t = (saS key (m + 1), m, bxL key m c, 0) := by
  have hx : ¬ exB r (saS key m) t = true := by
    unfold exB saS
    rw [sn_zero]
    simp
    omega
  have hs : seC (saS key m).snd [] [c] = (⟨key, m + 1⟩, bxL key m c, 0) := bx_seC hk (by omega) c
  unfold ssS
  rw [if_neg hx, hs, if_neg (by simp)]
  rfl
theorem sb_open {r : Rl} {key : List UInt8} (hk : key.length = 32) {k : Nat} {came : List Nat} (hc : ∀ x ∈ came, x < 128) (hk2 : k < 128) (c : UInt8) (h : 0 < r.expire) :
    ssO r (sbS key came) k (bxL key k c) 0 = if k ∈ came then (sbS key came, [], 43) else (sbS key (came ++ [k]), [c], 0) := by
  have hl : ∀ x ∈ came, 0 ≤ x ∧ x < 0 + 128 := fun x hx => ⟨Nat.zero_le _, by have := hc x hx; omega⟩
  have h1 : ¬ r.expire ≤ snN (sbS key came).born 0 := by
    show ¬ r.expire ≤ snN 0 0
    rw [sn_zero]
    omega
  have h2 : cmE (sbS key came).came k = if k ∈ came then 43 else 0 := cm_near (B := 0) hl (Nat.zero_le _)
  have h3 : (opC ⟨(sbS key came).rcv.key, k⟩ [] (bxL key k c)).2 = ([c], 0) := opC_seC ⟨key, k⟩ [c] (by rw [bx_seC hk (by omega) c])
  have h4 : mkL came k = (if k ∈ came then came else came ++ [k], if k ∈ came then 43 else 0) := mk_near (B := 0) hl (Nat.zero_le _)
  unfold ssO
  rw [if_neg h1, h2]
  by_cases hm : k ∈ came
  · rw [if_pos hm, if_pos hm, if_pos (by decide)]
  · rw [if_neg hm, if_neg hm, if_neg (by decide), h3, if_neg (by simp)]
    show (Ses.mk _ _ _ _ (mkL came k).1, _, _) = _
    rw [h4, if_neg hm]
    rfl
end Go.Proofs.YtliiofjcghdjoaaDoor

/- Numbers of 64 bits that came in. No program's text is named. -/
namespace Go.Proofs.YtliiofjcghdjoaaDoor
open Go.ChangeShapes Go.WideShapes Go.ChangeAt Go.RowKit
set_option linter.unusedSimpArgs false
set_option linter.unusedVariables false

/-- Numbers that came in. -/
structure NuI (w : World) (v : Value) (xs : List Nat) : Prop where
  rd : RdI .u64 w v (nU xs)
  lim : ∀ x ∈ xs, x < 18446744073709551616
theorem NuI.at {w w' : World} {v : Value} {xs : List Nat} {a : Option Addr} {n c : Nat} (h : NuI w v xs) (hv : v = .slice a n c) (hb : Below w.heap.size w w') {i : Nat} (hi : i < xs.length) :
    ∃ b off, a = some ⟨b, off, none⟩ ∧ w'.cell? ⟨b, off + i, none⟩ = some (.int .u64 ((xs.getD i 0 : Nat) : Int)) ∧ xs.getD i 0 < 18446744073709551616 := by
  obtain ⟨a', c', e1, h2, h3, -, h5⟩ := h.rd.kept hb
  rw [hv] at e1
  simp only [Value.slice.injEq] at e1
  obtain ⟨rfl, -, -⟩ := e1
  rcases h5 with h5 | ⟨b, off, rfl, hc⟩
  · have := nU_length xs
    rw [h5] at this
    simp at this
    omega
  · refine ⟨b, off, rfl, by rw [hc i (by rw [nU_length]; exact hi), nU_getD], ?_⟩
    have : xs.getD i 0 = xs[i] := by simp [hi]
    rw [this]
    exact h.lim _ (List.getElem_mem hi)
end Go.Proofs.YtliiofjcghdjoaaDoor
