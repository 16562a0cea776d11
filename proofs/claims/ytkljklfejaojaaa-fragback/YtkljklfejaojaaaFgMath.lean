/- Messages in pieces, as the document has them: plain mathematics. No program's text is named. -/
import Derived.Test.YtkljklfejaojaaaLib
namespace Go.Proofs.Ytkljklfejaojaaa
set_option linter.unusedSimpArgs false
set_option linter.unusedVariables false

/-- An unfinished message: its peer, its number, its birth, the parts that came (one that did not is empty). -/
structure Ent where
  peer : List UInt8
  msg : Int
  born : Nat
  parts : List (List UInt8)
/-- A buffer: bounds of a peer, of all, an age, the entries. -/
structure Bf where
  pm : Int
  am : Int
  age : Nat
  l : List Ent
def lsN (n : Int) : Int := if n < 0 then 0 else n
def nwF (p a : Int) (g : Nat) : Bf := ⟨lsN p, lsN a, g, []⟩
/-- What is kept of an entry, of a peer, of all. -/
def szE (e : Ent) : Nat := (e.parts.map List.length).sum
def ttB (l : List Ent) : Nat := (l.map szE).sum
def hdB (l : List Ent) (p : List UInt8) : Nat := (l.map fun e => if e.peer = p then szE e else 0).sum
/-- Is an entry young enough? -/
def yoE (age now : Nat) (e : Ent) : Bool := decide (now ≤ e.born) || decide (now - e.born ≤ age)
def exL (age now : Nat) (l : List Ent) : List Ent := l.filter (yoE age now)
def drL (p : List UInt8) (l : List Ent) : List Ent := l.filter fun e => !decide (e.peer = p)
/-- May a piece be? -/
def mayG (msg part parts : Int) (n : Nat) : Bool := decide (0 ≤ msg ∧ msg ≤ 7 ∧ 1 ≤ parts ∧ parts ≤ 64 ∧ 0 ≤ part ∧ part < parts ∧ 1 ≤ n ∧ n ≤ 1024 ∧ (n = 1024 ∨ part + 1 = parts))
def isE (p : List UInt8) (m : Int) (e : Ent) : Bool := decide (e.peer = p) && decide (e.msg = m)
/-- Where an entry is: its place, or how many there are. -/
def fdN (p : List UInt8) (m : Int) : List Ent → Nat
  | [] => 0
  | e :: l => if isE p m e = true then 0 else fdN p m l + 1
theorem fdN_le (p : List UInt8) (m : Int) : ∀ l : List Ent, fdN p m l ≤ l.length
  | [] => by simp [fdN]
  | e :: l => by
    have := fdN_le p m l
    unfold fdN
    split <;> simp <;> omega
def noE : Ent := ⟨[], 0, 0, []⟩
theorem fdN_is {p : List UInt8} {m : Int} : ∀ {l : List Ent}, fdN p m l < l.length → isE p m (l.getD (fdN p m l) noE) = true
  | [], h => by simp [fdN] at h
  | e :: l, h => by
    by_cases he : isE p m e = true
    · simp [fdN, he]
    · simp only [fdN, he] at h ⊢
      simp only [if_neg, Bool.false_eq_true, if_false, List.length_cons, Nat.add_lt_add_iff_right, List.getD_cons_succ] at h ⊢
      exact fdN_is h
theorem fdN_not {p : List UInt8} {m : Int} : ∀ {l : List Ent} {i : Nat}, i < fdN p m l → isE p m (l.getD i noE) = false
  | [], i, h => by simp [fdN] at h
  | e :: l, i, h => by
    by_cases he : isE p m e = true
    · simp [fdN, he] at h
    · simp only [fdN, he] at h
      simp only [Bool.false_eq_true, if_false] at h
      cases i with
      | zero => simpa using he
      | succ i =>
        rw [List.getD_cons_succ]
        exact fdN_not (by omega)
theorem fdN_eq {p : List UInt8} {m : Int} {l : List Ent} {i : Nat} (h1 : ∀ k, k < i → isE p m (l.getD k noE) = false) (h2 : i < l.length) (h3 : isE p m (l.getD i noE) = true) : fdN p m l = i := by
  rcases Nat.lt_trichotomy (fdN p m l) i with h | h | h
  · have := fdN_is (p := p) (m := m) (l := l) (by omega)
    rw [h1 _ h] at this
    cases this
  · exact h
  · have := fdN_not h
    rw [h3] at this
    cases this
theorem fdN_none {p : List UInt8} {m : Int} {l : List Ent} (h1 : ∀ k, k < l.length → isE p m (l.getD k noE) = false) : fdN p m l = l.length := by
  rcases Nat.lt_or_ge (fdN p m l) l.length with h | h
  · have := fdN_is h
    rw [h1 _ h] at this
    cases this
  · have := fdN_le p m l
    omega
/-- Another entry of the peer. -/
def otE (p : List UInt8) (m : Int) (e : Ent) : Bool := decide (e.peer = p) && !decide (e.msg = m)
/-- The oldest one of the first i. -/
def odS (p : List UInt8) (m : Int) (l : List Ent) : Nat → Option Nat
  | 0 => none
  | i + 1 => match odS p m l i with
    | none => if otE p m (l.getD i noE) = true then some i else none
    | some a => if otE p m (l.getD i noE) = true ∧ (l.getD i noE).born < (l.getD a noE).born then some i else some a
def odN (p : List UInt8) (m : Int) (l : List Ent) : Option Nat := odS p m l l.length
theorem odS_lt {p : List UInt8} {m : Int} {l : List Ent} : ∀ {i a : Nat}, odS p m l i = some a → a < i ∧ otE p m (l.getD a noE) = true
  | 0, a, h => by cases h
  | i + 1, a, h => by
    unfold odS at h
    cases hs : odS p m l i with
    | none =>
      rw [hs] at h
      simp only at h
      split at h
      · rename_i hc
        simp only [Option.some.injEq] at h
        subst h
        exact ⟨by omega, hc⟩
      · cases h
    | some b =>
      rw [hs] at h
      simp only at h
      have := odS_lt hs
      split at h
      · rename_i hc
        simp only [Option.some.injEq] at h
        subst h
        exact ⟨by omega, hc.1⟩
      · simp only [Option.some.injEq] at h
        subst h
        exact ⟨by omega, this.2⟩
/-- Entries go until there is room. -/
def evL (lim : Int) (p : List UInt8) (m : Int) (n : Nat) : Nat → List Ent → Option (List Ent)
  | 0, l => if ((hdB l p : Nat) : Int) + (n : Int) ≤ lim then some l else none
  | k + 1, l => if ((hdB l p : Nat) : Int) + (n : Int) ≤ lim then some l else match odN p m l with
    | none => none
    | some i => evL lim p m n k (l.eraseIdx i)
/-- The entry with a piece put in. -/
def inE (e : Ent) (part : Nat) (body : List UInt8) : Ent := ⟨e.peer, e.msg, e.born, e.parts.set part body⟩
def fuB (ps : List (List UInt8)) : Bool := ps.all fun x => !x.isEmpty
/-- P19.3, behind the entry's own tests. -/
def adG (b : Bf) (p : List UInt8) (m : Int) (part parts : Nat) (body : List UInt8) (now : Nat) : Bf × List UInt8 × Int :=
  match evL b.pm p m body.length b.l.length b.l with
  | none => (b, [], 42)
  | some l2 =>
    if b.am < ((ttB l2 : Nat) : Int) + (body.length : Int) then (b, [], 42)
    else
      let l3 := if fdN p m l2 < l2.length then l2 else l2 ++ [⟨p, m, now, List.replicate parts []⟩]
      let k := fdN p m l2
      let e := inE (l3.getD k noE) part body
      if fuB e.parts = true then (⟨b.pm, b.am, b.age, (l3.set k e).eraseIdx k⟩, e.parts.flatten, 0)
      else (⟨b.pm, b.am, b.age, l3.set k e⟩, [], 0)
/-- P19.3. -/
def adF (b : Bf) (p : List UInt8) (m part parts : Int) (body : List UInt8) (now : Nat) : Bf × List UInt8 × Int :=
  if mayG m part parts body.length = true then
    let b1 : Bf := ⟨b.pm, b.am, b.age, exL b.age now b.l⟩
    let e := b1.l.getD (fdN p m b1.l) noE
    if fdN p m b1.l < b1.l.length then
      if e.parts.length ≠ parts.toNat ∨ (e.parts.getD part.toNat [] ≠ [] ∧ e.parts.getD part.toNat [] ≠ body) then (b1, [], 41)
      else if e.parts.getD part.toNat [] ≠ [] then (b1, [], 0)
      else adG b1 p m part.toNat parts.toNat body now
    else adG b1 p m part.toNat parts.toNat body now
  else (b, [], 1)
/-- P19.1: the pieces of a message. -/
def spP (m : List UInt8) : Nat → List (List UInt8)
  | 0 => []
  | k + 1 => spP m k ++ [(m.drop (1024 * k)).take 1024]
def spF (m : List UInt8) : List (List UInt8) × Int := if m.length = 0 then ([], 1) else if 65536 < m.length then ([], 14) else (spP m ((m.length + 1023) / 1024), 0)

/-- An entry that goes is not the one that is looked for. -/
theorem find_erase {p : List UInt8} {m : Int} : ∀ {l : List Ent} {i : Nat}, isE p m (l.getD i noE) = false → (l.eraseIdx i).getD (fdN p m (l.eraseIdx i)) noE = l.getD (fdN p m l) noE ∧ (fdN p m (l.eraseIdx i) < (l.eraseIdx i).length ↔ fdN p m l < l.length)
  | [], i, h => by simp [fdN]
  | e :: l, 0, h => by
    simp only [List.getD_cons_zero] at h
    simp [fdN, h]
  | e :: l, i + 1, h => by
    rw [List.getD_cons_succ] at h
    have := find_erase h
    rw [List.eraseIdx_cons_succ]
    by_cases he : isE p m e = true
    · simp [fdN, he]
    · simp only [fdN, he, Bool.false_eq_true, if_false, List.getD_cons_succ, List.length_cons, Nat.add_lt_add_iff_right]
      exact this
theorem find_ev {lim : Int} {p : List UInt8} {m : Int} {n : Nat} : ∀ {k : Nat} {l l2 : List Ent}, evL lim p m n k l = some l2 → l2.getD (fdN p m l2) noE = l.getD (fdN p m l) noE ∧ (fdN p m l2 < l2.length ↔ fdN p m l < l.length)
  | 0, l, l2, h => by
    unfold evL at h
    split at h
    · simp only [Option.some.injEq] at h
      subst h
      exact ⟨rfl, Iff.rfl⟩
    · cases h
  | k + 1, l, l2, h => by
    unfold evL at h
    split at h
    · simp only [Option.some.injEq] at h
      subst h
      exact ⟨rfl, Iff.rfl⟩
    · cases ho : odN p m l with
      | none => rw [ho] at h; cases h
      | some i =>
        rw [ho] at h
        simp only at h
        have h2 := find_ev h
        have h3 : isE p m (l.getD i noE) = false := by
          have := (odS_lt ho).2
          unfold otE at this
          unfold isE
          simp only [Bool.and_eq_true, Bool.not_eq_true', decide_eq_false_iff_not] at this
          rw [decide_eq_false this.2, Bool.and_false]
        have h4 := find_erase h3
        exact ⟨h2.1.trans h4.1, h2.2.trans h4.2⟩
end Go.Proofs.Ytkljklfejaojaaa
