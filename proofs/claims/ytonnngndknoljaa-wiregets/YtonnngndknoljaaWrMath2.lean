/- Packets there and back: what is put is got, what is got is put as it was. No program's text is named. -/
import Derived.Test.YtonnngndknoljaaWrMath
namespace Go.Proofs.Ytonnngndknoljaa
set_option linter.unusedSimpArgs false
set_option linter.unusedVariables false

theorem le_back : ∀ l : List UInt8, leB l.length (leN l) = l := by
  intro l
  have h : ∀ (l : List UInt8) (i : Nat), i < l.length → stB (leN l) i = l.getD i 0 := by
    intro l
    induction l with
    | nil => intro i hi; simp at hi
    | cons x xs ih =>
      intro i hi
      cases i with
      | zero =>
        simp only [stB, leN, Nat.pow_zero, Nat.div_one, List.getD_cons_zero]
        apply UInt8.toNat_inj.1
        rw [UInt8.toNat_ofNat']
        have := x.toNat_lt
        omega
      | succ i =>
        rw [List.getD_cons_succ, ← ih i (by simp at hi; omega)]
        simp only [stB, leN]
        congr 1
        rw [Nat.pow_succ, Nat.mul_comm (256 ^ i) 256, ← Nat.div_div_eq_div_mul]
        congr 1
        have := x.toNat_lt
        omega
  refine List.ext_getElem (by simp [leB]) fun i h1 h2 => ?_
  have := h l i h2
  simp only [leB, List.getElem_map, List.getElem_range]
  rw [this]
  simp [h2]
theorem le_back' {l : List UInt8} {n : Nat} (h : l.length = n) : leB n (leN l) = l := by
  subst h
  exact le_back l
theorem leB4 (x : Nat) : leB 4 x = [stB x 0, stB x 1, stB x 2, stB x 3] := rfl
theorem leB8 (x : Nat) : leB 8 x = [stB x 0, stB x 1, stB x 2, stB x 3, stB x 4, stB x 5, stB x 6, stB x 7] := rfl
theorem le4_num (x : Nat) (h : x < 4294967296) : leN [stB x 0, stB x 1, stB x 2, stB x 3] = x := by
  have := leN_stB x 4
  rw [show (List.range 4).map (stB x) = [stB x 0, stB x 1, stB x 2, stB x 3] from rfl] at this
  rw [this]
  exact Nat.mod_eq_of_lt h
theorem le8_num (x : Nat) (h : x < 18446744073709551616) : leN [stB x 0, stB x 1, stB x 2, stB x 3, stB x 4, stB x 5, stB x 6, stB x 7] = x := by
  have := leN_stB x 8
  rw [show (List.range 8).map (stB x) = [stB x 0, stB x 1, stB x 2, stB x 3, stB x 4, stB x 5, stB x 6, stB x 7] from rfl] at this
  rw [this]
  exact Nat.mod_eq_of_lt h
theorem b8_num {x : Int} (h0 : 0 ≤ x) (h1 : x < 256) : ((b8 x).toNat : Int) = x := by
  rw [b8_toNat]
  omega
theorem b8_byte (x : UInt8) : b8 (x.toNat : Int) = x := by
  apply UInt8.toNat_inj.1
  have h := b8_toNat (x.toNat : Int)
  have := x.toNat_lt
  omega
/-- The bytes by their kinds. -/
theorem put_one {p : Pkt} (h : p.kind = 1) : putL p = b8 1 :: stB p.fr 0 :: stB p.fr 1 :: stB p.fr 2 :: stB p.fr 3 :: stB p.tt 0 :: stB p.tt 1 :: stB p.tt 2 :: stB p.tt 3 :: b8 p.msg :: b8 p.part :: b8 p.parts :: (p.mac ++ p.body) := by
  unfold putL
  rw [h, if_pos rfl, if_pos rfl, if_neg (by decide), leB4, leB4]
  simp
theorem put_two {p : Pkt} (h : p.kind = 2) : putL p = b8 2 :: stB p.tt 0 :: stB p.tt 1 :: stB p.tt 2 :: stB p.tt 3 :: (p.mac ++ p.body) := by
  unfold putL
  rw [h, if_neg (by decide), if_neg (by decide), if_neg (by decide), leB4]
  simp
theorem put_three {p : Pkt} (h : p.kind = 3 ∨ p.kind = 4) : putL p = b8 p.kind :: stB p.tt 0 :: stB p.tt 1 :: stB p.tt 2 :: stB p.tt 3 :: (p.mac ++ (stB p.ctr 0 :: stB p.ctr 1 :: stB p.ctr 2 :: stB p.ctr 3 :: stB p.ctr 4 :: stB p.ctr 5 :: stB p.ctr 6 :: stB p.ctr 7 :: p.body)) := by
  unfold putL
  rw [if_neg (by omega), if_neg (by omega), if_pos (by omega), leB4, leB8]
  simp
theorem may_of {p : Pkt} (h : mayB p = true) : mayP p := by unfold mayB at h; exact of_decide_eq_true h
theorem putL_le {p : Pkt} (h : mayB p = true) : (putL p).length ≤ 1200 ∧ (putL p).length ≠ 0 := by
  rcases may_of h with ⟨h1, h2⟩ | ⟨h1, h2, h3, -, h4⟩ | ⟨h1, h2, h3, h4, h5⟩ | ⟨h1, h2, h3, h4⟩
  · unfold mayF at h2
    rw [put_one h1]
    simp
    omega
  · rw [put_two h1]
    simp
    omega
  · rw [put_three (.inl h1)]
    simp
    omega
  · rw [put_three (.inr h1)]
    simp
    omega
theorem nil_of {l : List UInt8} (h : l.length = 0) : l = [] := List.eq_nil_of_length_eq_zero h
theorem gtC_put {p : Pkt} (hw : PkW p) (h : mayB p = true) : gtC (putL p) = some p := by
  obtain ⟨kind, fr, tt, msg, part, parts, mac, ctr, body⟩ := p
  obtain ⟨-, w1, w2, -, -, -, w6⟩ := hw
  rcases may_of h with ⟨h1, h2⟩ | ⟨h1, ⟨h5, h6, h7, h8⟩, h3, h9, h4⟩ | ⟨h1, ⟨h5, h6, h7, h8⟩, h3, h4⟩ | ⟨h1, ⟨h5, h6, h7, h8⟩, h3, h4⟩
  · obtain ⟨g1, g2, g3, g4, g5, g6, g7, g8, g9, g10, g11⟩ := h2
    simp only at h1 g1 g2 g3 g4 g5 g6 g7 g8 g9 g10 w1 w2 w6
    subst h1 g8
    rw [put_one rfl]
    unfold gtC
    have e0 : (b8 1).toNat = 1 := by decide
    have e1 := b8_num (x := msg) g1 (by omega)
    have e2 := b8_num (x := part) g5 (by omega)
    have e3 := b8_num (x := parts) (by omega) (by omega)
    have t1 : (mac ++ body).take 16 = mac := by rw [← g7]; exact List.take_left
    have t2 : (mac ++ body).drop 16 = body := by rw [← g7]; exact List.drop_left
    simp only [List.getD_cons_zero, List.getD_cons_succ, e0, List.length_cons, List.length_append, List.drop_succ_cons, List.drop_zero, List.take_succ_cons, List.take_zero, le4_num _ w1, le4_num _ w2, e1, e2, e3, t1, t2]
    rw [if_pos ⟨by trivial, by omega⟩]
  · simp only at h1 h3 h4 h5 h6 h7 h8 h9 w1 w2 w6
    subst h1 h5 h6 h7 h8 h9
    have hb := nil_of h4
    subst hb
    rw [put_two rfl]
    unfold gtC
    have e0 : (b8 2).toNat = 2 := by decide
    simp only [List.getD_cons_zero, List.getD_cons_succ, e0, List.length_cons, List.length_append, List.append_nil, List.drop_succ_cons, List.drop_zero, List.take_succ_cons, List.take_zero, le4_num _ w2]
    rw [if_neg (by omega), if_pos ⟨by trivial, by omega⟩]
  · simp only at h1 h3 h4 h5 h6 h7 h8 w1 w2 w6
    subst h1 h5 h6 h7 h8
    have hb := nil_of h3
    subst hb
    rw [put_three (.inl rfl)]
    unfold gtC
    have e0 : (b8 3).toNat = 3 := by decide
    simp only [List.getD_cons_zero, List.getD_cons_succ, e0, List.length_cons, List.length_append, List.nil_append, List.drop_succ_cons, List.drop_zero, List.take_succ_cons, List.take_zero, le4_num _ w2, le8_num _ w6]
    rw [if_neg (by omega), if_neg (by omega), if_pos ⟨by simp, by omega⟩]
    rfl
  · simp only at h1 h3 h4 h5 h6 h7 h8 w1 w2 w6
    subst h1 h5 h6 h7 h8
    have hb := nil_of h3
    subst hb
    rw [put_three (.inr rfl)]
    unfold gtC
    have e0 : (b8 4).toNat = 4 := by decide
    simp only [List.getD_cons_zero, List.getD_cons_succ, e0, List.length_cons, List.length_append, List.nil_append, List.drop_succ_cons, List.drop_zero, List.take_succ_cons, List.take_zero, le4_num _ w2, le8_num _ w6]
    rw [if_neg (by omega), if_neg (by omega), if_pos ⟨by simp, by omega⟩]
    rfl
/-- What is put is got. -/
theorem gt_put {p : Pkt} (hw : PkW p) (h : mayB p = true) : gtP (putL p) = (p, 0) := by
  obtain ⟨h1, h2⟩ := putL_le h
  unfold gtP
  rw [if_neg (by omega), if_neg h2, gtC_put hw h]
  simp only
  rw [if_pos h]
theorem split12 {b : List UInt8} (h : 28 < b.length) : b = b.getD 0 0 :: ((b.drop 1).take 4 ++ (b.drop 5).take 4 ++ [b.getD 9 0, b.getD 10 0, b.getD 11 0] ++ (b.drop 12).take 16 ++ b.drop 28) := by
  match b, h with
  | x0 :: x1 :: x2 :: x3 :: x4 :: x5 :: x6 :: x7 :: x8 :: x9 :: x10 :: x11 :: l, h =>
    have e : l.take 16 ++ l.drop 16 = l := List.take_append_drop 16 l
    simp [e]
theorem le4_of {l : List UInt8} (h : 4 ≤ l.length) : leB 4 (leN (l.take 4)) = l.take 4 := le_back' (by simp; omega)
theorem le8_of {l : List UInt8} (h : 8 ≤ l.length) : leB 8 (leN (l.take 8)) = l.take 8 := le_back' (by simp; omega)
/-- What is got is put as it was. -/
theorem put_gtC {b : List UInt8} {p : Pkt} (h : gtC b = some p) : putL p = b := by
  unfold gtC at h
  simp only at h
  have bb : ∀ {k : Nat} {x : UInt8}, x.toNat = k → b8 (k : Int) = x := fun {k x} e => by rw [← e]; exact b8_byte x
  split at h
  · rename_i hc
    obtain ⟨hk, hl⟩ := hc
    simp only [Option.some.injEq] at h
    subst h
    unfold putL
    simp only [if_true, b8_byte]
    rw [if_neg (by decide), le4_of (by simp; omega), le4_of (by simp; omega)]
    have e := bb hk
    rw [show b8 1 = b.getD 0 0 from e]
    have := split12 hl
    simpa using this.symm
  · split at h
    · rename_i hc
      obtain ⟨hk, hl⟩ := hc
      simp only [Option.some.injEq] at h
      subst h
      unfold putL
      simp only
      rw [if_neg (by decide), if_neg (by decide), if_neg (by decide), le4_of (by simp; omega), show b8 2 = b.getD 0 0 from bb hk]
      match b, hl with
      | x0 :: x1 :: x2 :: x3 :: x4 :: l, hl => simp
    · split at h
      · rename_i hc
        obtain ⟨hk, hl⟩ := hc
        simp only [Option.some.injEq] at h
        subst h
        unfold putL
        simp only
        rw [if_neg (by omega), if_neg (by omega), if_pos (by omega), le4_of (by simp; omega), le8_of (by simp; omega), bb rfl]
        match b, hl with
        | x0 :: x1 :: x2 :: x3 :: x4 :: y0 :: y1 :: y2 :: y3 :: y4 :: y5 :: y6 :: y7 :: l, hl => simp
      · cases h
theorem leN_lt4 (b : List UInt8) (n : Nat) : leN ((b.drop n).take 4) < 4294967296 := by
  have h := leN_lt ((b.drop n).take 4)
  have h2 : ((b.drop n).take 4).length ≤ 4 := by simp; omega
  have h3 := Nat.pow_le_pow_right (show 0 < 256 by decide) h2
  have h4 : 256 ^ 4 = 4294967296 := by decide
  omega
theorem PkW_gtC {b : List UInt8} {p : Pkt} (h : gtC b = some p) : PkW p := by
  unfold gtC at h
  simp only at h
  have u8 : ∀ i, (b.getD i 0).toNat < 256 := fun i => UInt8.toNat_lt _
  split at h
  · simp only [Option.some.injEq] at h
    subst h
    have := u8 9
    have := u8 10
    have := u8 11
    exact ⟨by simp, leN_lt4 _ _, leN_lt4 _ _, by simp only; omega, by simp only; omega, by simp only; omega, by simp⟩
  · split at h
    · simp only [Option.some.injEq] at h
      subst h
      exact ⟨by simp, by simp, leN_lt4 _ _, by simp, by simp, by simp, by simp⟩
    · split at h
      · simp only [Option.some.injEq] at h
        subst h
        have := u8 0
        exact ⟨by simp only; omega, by simp, leN_lt4 _ _, by simp, by simp, by simp, leN_take_lt _ 8 (by decide)⟩
      · cases h
theorem gtP_ok {b : List UInt8} (h : (gtP b).2 = 0) : gtC b = some (gtP b).1 ∧ mayB (gtP b).1 = true ∧ b.length ≤ 1200 := by
  unfold gtP at h ⊢
  by_cases h1 : 1200 < b.length
  · rw [if_pos h1] at h
    cases h
  rw [if_neg h1] at h ⊢
  by_cases h2 : b.length = 0
  · rw [if_pos h2] at h
    cases h
  rw [if_neg h2] at h ⊢
  cases hc : gtC b with
  | none => rw [hc] at h; cases h
  | some p =>
    rw [hc] at h
    simp only at h ⊢
    by_cases hm : mayB p = true
    · rw [if_pos hm]
      exact ⟨rfl, hm, by omega⟩
    · rw [if_neg hm] at h
      cases h
theorem gtP_bad {b : List UInt8} (h : (gtP b).2 ≠ 0) : (gtP b).1 = noPk := by
  unfold gtP at h ⊢
  split at h <;> rename_i h1
  · rw [if_pos h1]
  rw [if_neg h1]
  split at h <;> rename_i h2
  · rw [if_pos h2]
  rw [if_neg h2]
  cases hc : gtC b with
  | none => rfl
  | some p =>
    rw [hc] at h
    simp only at h ⊢
    by_cases hm : mayB p = true
    · rw [if_pos hm] at h
      exact absurd rfl h
    · rw [if_neg hm]
theorem put_gt {b : List UInt8} (h : (gtP b).2 = 0) : putL (gtP b).1 = b := put_gtC (gtP_ok h).1
theorem PkW_gtP (b : List UInt8) : PkW (gtP b).1 := by
  by_cases h : (gtP b).2 = 0
  · exact PkW_gtC (gtP_ok h).1
  · rw [gtP_bad h]
    exact ⟨by decide, by decide, by decide, by decide, by decide, by decide, by decide⟩
end Go.Proofs.Ytonnngndknoljaa
