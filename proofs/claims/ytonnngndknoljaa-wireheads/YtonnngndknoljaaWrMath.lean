/- Packets and their bytes, as the document has them: plain mathematics. No program's text is named. -/
import Derived.Test.YtonnngndknoljaaLib
namespace Go.Proofs.Ytonnngndknoljaa
set_option linter.unusedSimpArgs false
set_option linter.unusedVariables false

/-- A packet. -/
structure Pkt where
  kind : Int
  fr : Nat
  tt : Nat
  msg : Int
  part : Int
  parts : Int
  mac : List UInt8
  ctr : Nat
  body : List UInt8
theorem Pkt.ext' {p q : Pkt} (h1 : p.kind = q.kind) (h2 : p.fr = q.fr) (h3 : p.tt = q.tt) (h4 : p.msg = q.msg) (h5 : p.part = q.part) (h6 : p.parts = q.parts) (h7 : p.mac = q.mac) (h8 : p.ctr = q.ctr) (h9 : p.body = q.body) : p = q := by
  cases p
  cases q
  simp_all
def noPk : Pkt := ⟨0, 0, 0, 0, 0, 0, [], 0, []⟩
/-- Its numbers are of their kinds. -/
structure PkW (p : Pkt) : Prop where
  kind : -9223372036854775808 ≤ p.kind ∧ p.kind ≤ 9223372036854775807
  fr : p.fr < 4294967296
  tt : p.tt < 4294967296
  msg : -9223372036854775808 ≤ p.msg ∧ p.msg ≤ 9223372036854775807
  part : -9223372036854775808 ≤ p.part ∧ p.part ≤ 9223372036854775807
  parts : -9223372036854775808 ≤ p.parts ∧ p.parts ≤ 9223372036854775807
  ctr : p.ctr < 18446744073709551616
/-- May it be, as a fragment? -/
abbrev mayF (p : Pkt) : Prop := 0 ≤ p.msg ∧ p.msg ≤ 7 ∧ 1 ≤ p.parts ∧ p.parts ≤ 64 ∧ 0 ≤ p.part ∧ p.part < p.parts ∧ p.mac.length = 16 ∧ p.ctr = 0 ∧ 1 ≤ p.body.length ∧ p.body.length ≤ 1024 ∧ (p.body.length = 1024 ∨ p.part + 1 = p.parts)
abbrev mayR (p : Pkt) : Prop := p.fr = 0 ∧ p.msg = 0 ∧ p.part = 0 ∧ p.parts = 0
/-- May it be? -/
abbrev mayP (p : Pkt) : Prop :=
  (p.kind = 1 ∧ mayF p) ∨ (p.kind = 2 ∧ mayR p ∧ p.mac.length = 16 ∧ p.ctr = 0 ∧ p.body.length = 0) ∨ (p.kind = 3 ∧ mayR p ∧ p.mac.length = 0 ∧ 16 ≤ p.body.length ∧ p.body.length ≤ 1187) ∨ (p.kind = 4 ∧ mayR p ∧ p.mac.length = 0 ∧ p.body.length = 16)
def mayB (p : Pkt) : Bool := decide (mayP p)
/-- A number's lowest byte. -/
def b8 (x : Int) : UInt8 := UInt8.ofNat (x % 256).toNat
theorem b8_toNat (x : Int) : ((b8 x).toNat : Int) = x % 256 := by
  unfold b8
  rw [UInt8.toNat_ofNat']
  omega
def leB (n x : Nat) : List UInt8 := (List.range n).map (stB x)
/-- A packet's bytes. -/
def putL (p : Pkt) : List UInt8 :=
  [b8 p.kind] ++ (if p.kind = 1 then leB 4 p.fr else []) ++ leB 4 p.tt ++ (if p.kind = 1 then [b8 p.msg, b8 p.part, b8 p.parts] else []) ++ p.mac ++ (if 2 < p.kind then leB 8 p.ctr else []) ++ p.body
/-- .. without the code. -/
def sgL (p : Pkt) : List UInt8 := if mayB p = true ∧ p.kind = 1 then (putL p).take 12 ++ (putL p).drop 28 else []
/-- What bytes would be as a packet. -/
def gtC (b : List UInt8) : Option Pkt :=
  let k := (b.getD 0 0).toNat
  if k = 1 ∧ 28 < b.length then some ⟨1, leN ((b.drop 1).take 4), leN ((b.drop 5).take 4), ((b.getD 9 0).toNat : Int), ((b.getD 10 0).toNat : Int), ((b.getD 11 0).toNat : Int), (b.drop 12).take 16, 0, b.drop 28⟩
  else if k = 2 ∧ b.length = 21 then some ⟨2, 0, leN ((b.drop 1).take 4), 0, 0, 0, b.drop 5, 0, []⟩
  else if (k = 3 ∨ k = 4) ∧ 13 < b.length then some ⟨(k : Int), 0, leN ((b.drop 1).take 4), 0, 0, 0, [], leN ((b.drop 5).take 8), b.drop 13⟩
  else none
def gtP (b : List UInt8) : Pkt × Int :=
  if 1200 < b.length then (noPk, 14) else if b.length = 0 then (noPk, 13) else
  match gtC b with
  | none => (noPk, 40)
  | some p => if mayB p = true then (p, 0) else (noPk, 40)
/-- Are two the same? -/
def smB (p q : Pkt) : Bool := (p.kind == q.kind) && (p.fr == q.fr) && (p.tt == q.tt) && (p.msg == q.msg) && (p.part == q.part) && (p.parts == q.parts) && (p.ctr == q.ctr) && (p.mac == q.mac) && (p.body == q.body)
theorem smB_self (p : Pkt) : smB p p = true := by simp [smB]
theorem smB_iff {p q : Pkt} : smB p q = true ↔ p = q := by
  constructor
  · intro h
    simp only [smB, Bool.and_eq_true, beq_iff_eq] at h
    obtain ⟨⟨⟨⟨⟨⟨⟨⟨h1, h2⟩, h3⟩, h4⟩, h5⟩, h6⟩, h7⟩, h8⟩, h9⟩ := h
    exact Pkt.ext' h1 h2 h3 h4 h5 h6 h8 h7 h9
  · rintro rfl
    exact smB_self p
end Go.Proofs.Ytonnngndknoljaa
