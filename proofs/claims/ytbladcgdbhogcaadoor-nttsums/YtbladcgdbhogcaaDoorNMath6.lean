/- Polynomials whose places are crossed two by two, block by block: what the steps there and back come to: plain mathematics. No program's text is named. -/
import Derived.Test.YtbladcgdbhogcaaDoorNMath5
import Derived.Test.YtbladcgdbhogcaaDoorGMath
namespace Go.Proofs.YtbladcgdbhogcaaDoor
set_option linter.unusedSimpArgs false
set_option linter.unusedVariables false

/-- Half of a block's length. -/
def Hf (h : Nat) : Prop := h = 128 ∨ h = 64 ∨ h = 32 ∨ h = 16 ∨ h = 8 ∨ h = 4 ∨ h = 2
/-- Each two places that stand h apart have become what C1 and C2 make of them; Z tells a block's number. -/
def xg (h : Nat) (Z : Nat → FZ) (C1 C2 : FZ → FZ → FZ → FZ) (F : Nat → FZ) (p : Nat) : FZ :=
  if p % (2 * h) < h then C1 (Z (p / (2 * h))) (F p) (F (p + h)) else C2 (Z (p / (2 * h))) (F (p - h)) (F p)
/-- These places are done: the blocks ahead of b, and of b's pairs the first j. -/
abbrev xd (h b j p : Nat) : Prop := p / (2 * h) < b ∨ p / (2 * h) = b ∧ p % (2 * h) % h < j
theorem xd_none (h p : Nat) : ¬ xd h 0 0 p := by
  unfold xd
  generalize p / (2 * h) = a
  generalize p % (2 * h) % h = b
  omega
theorem xd_next {h b p : Nat} (hh : Hf h) : xd h b h p ↔ xd h (b + 1) 0 p := by
  unfold xd
  have h1 : p % (2 * h) % h < h := Nat.mod_lt _ (by unfold Hf at hh; omega)
  omega
theorem xd_all {h p : Nat} (hh : Hf h) (hp : p < 256) : xd h (256 / (2 * h)) 0 p := by
  unfold xd
  rcases hh with rfl | rfl | rfl | rfl | rfl | rfl | rfl <;> omega
/-- Where a pair lies. -/
theorem xd_pair {h b j : Nat} (hh : Hf h) (hb : b < 256 / (2 * h)) (hj : j < h) :
    2 * h * b + j + h < 256 ∧ 2 * h * b < 256 ∧ ¬ xd h b j (2 * h * b + j) ∧ ¬ xd h b j (2 * h * b + j + h) ∧ (2 * h * b + j) / (2 * h) = b ∧ (2 * h * b + j) % (2 * h) = j ∧ (2 * h * b + j + h) / (2 * h) = b ∧ (2 * h * b + j + h) % (2 * h) = j + h := by
  unfold xd
  rcases hh with rfl | rfl | rfl | rfl | rfl | rfl | rfl <;> omega
theorem xd_step {h b j p : Nat} (hh : Hf h) (hb : b < 256 / (2 * h)) (hj : j < h) (h1 : p ≠ 2 * h * b + j) (h2 : p ≠ 2 * h * b + j + h) : xd h b (j + 1) p ↔ xd h b j p := by
  unfold xd
  rcases hh with rfl | rfl | rfl | rfl | rfl | rfl | rfl <;> omega
theorem xd_first {h b j : Nat} (hh : Hf h) (hb : b < 256 / (2 * h)) (hj : j < h) : xd h b (j + 1) (2 * h * b + j) ∧ xd h b (j + 1) (2 * h * b + j + h) := by
  unfold xd
  rcases hh with rfl | rfl | rfl | rfl | rfl | rfl | rfl <;> omega
/-- A polynomial that is crossed so far. -/
def Xs (h : Nat) (Z : Nat → FZ) (C1 C2 : FZ → FZ → FZ → FZ) (F : Nat → FZ) (b j : Nat) (G : Nat → Int) : Prop :=
  ∀ p, p < 256 → G p = if xd h b j p then fzF (xg h Z C1 C2 F) p else fzF F p
theorem Xs.start (h : Nat) (Z : Nat → FZ) (C1 C2 : FZ → FZ → FZ → FZ) (F : Nat → FZ) : Xs h Z C1 C2 F 0 0 (fzF F) := fun p _ => by rw [if_neg (xd_none h p)]
theorem Xs.next {h : Nat} {Z : Nat → FZ} {C1 C2 : FZ → FZ → FZ → FZ} {F : Nat → FZ} {b : Nat} {G : Nat → Int} (hh : Hf h) (hx : Xs h Z C1 C2 F b h G) : Xs h Z C1 C2 F (b + 1) 0 G := fun p hp => by
  rw [hx p hp]
  by_cases hd : xd h b h p
  · rw [if_pos hd, if_pos ((xd_next hh).1 hd)]
  · rw [if_neg hd, if_neg fun e => hd ((xd_next hh).2 e)]
theorem Xs.done {h : Nat} {Z : Nat → FZ} {C1 C2 : FZ → FZ → FZ → FZ} {F : Nat → FZ} {G : Nat → Int} (hh : Hf h) (hx : Xs h Z C1 C2 F (256 / (2 * h)) 0 G) : gI G = gI (fzF (xg h Z C1 C2 F)) :=
  gI_congr fun p hp => by rw [hx p hp, if_pos (xd_all hh hp)]
theorem Xs.low {h : Nat} {Z : Nat → FZ} {C1 C2 : FZ → FZ → FZ → FZ} {F : Nat → FZ} {b j : Nat} {G : Nat → Int} (hh : Hf h) (hx : Xs h Z C1 C2 F b j G) (hb : b < 256 / (2 * h)) (hj : j < h) : G (2 * h * b + j) = fzF F (2 * h * b + j) := by
  have a := xd_pair hh hb hj
  rw [hx _ (by omega), if_neg a.2.2.1]
theorem Xs.high {h : Nat} {Z : Nat → FZ} {C1 C2 : FZ → FZ → FZ → FZ} {F : Nat → FZ} {b j : Nat} {G : Nat → Int} (hh : Hf h) (hx : Xs h Z C1 C2 F b j G) (hb : b < 256 / (2 * h)) (hj : j < h) : G (2 * h * b + j + h) = fzF F (2 * h * b + j + h) := by
  have a := xd_pair hh hb hj
  rw [hx _ (by omega), if_neg a.2.2.2.1]
theorem Xs.put {h : Nat} {Z : Nat → FZ} {C1 C2 : FZ → FZ → FZ → FZ} {F : Nat → FZ} {b j : Nat} {G : Nat → Int} (hh : Hf h) (hx : Xs h Z C1 C2 F b j G) (hb : b < 256 / (2 * h)) (hj : j < h) {i k : Nat} (hi : i = 2 * h * b + j) (hk : k = i + h) {x y : Int}
    (h1 : x = (((C1 (Z b) (F i) (F k)).val : Nat) : Int)) (h2 : y = (((C2 (Z b) (F i) (F k)).val : Nat) : Int)) : Xs h Z C1 C2 F b (j + 1) (fun p => if p = k then y else if p = i then x else G p) := by
  subst hi hk
  obtain ⟨a1, a0, a2, a3, a4, a5, a6, a7⟩ := xd_pair hh hb hj
  obtain ⟨f1, f2⟩ := xd_first hh hb hj
  intro p hp
  by_cases e2 : p = 2 * h * b + j + h
  · subst e2
    simp only [if_pos, f2]
    rw [h2]
    unfold fzF xg
    rw [a7, a6, if_neg (by omega), show 2 * h * b + j + h - h = 2 * h * b + j by omega]
  · by_cases e1 : p = 2 * h * b + j
    · subst e1
      simp only [if_neg e2, if_pos, f1]
      rw [h1]
      unfold fzF xg
      rw [a5, a4, if_pos hj]
    · show (if p = _ then y else if p = _ then x else G p) = _
      rw [if_neg e2, if_neg e1, hx p hp]
      by_cases hd : xd h b j p
      · rw [if_pos hd, if_pos ((xd_step hh hb hj e1 e2).2 hd)]
      · rw [if_neg hd, if_neg fun e => hd ((xd_step hh hb hj e1 e2).1 e)]
/-! ### There and back -/
/-- A polynomial on level l, its blocks one behind the other. -/
def stg (f : Nat → FZ) (l p : Nat) : FZ := lw f l (p / 2 ^ (8 - l)) (p % 2 ^ (8 - l))
theorem stg_first (f : Nat → FZ) (p : Nat) (hp : p < 256) : stg f 0 p = f p := by
  unfold stg
  rw [lw_first, show 2 ^ (8 - 0) = 256 from rfl, Nat.mod_eq_of_lt hp]
theorem stg_last (f : Nat → FZ) (p : Nat) (hp : p < 256) : stg f 7 p = fwd f p := by
  unfold stg
  rw [show 2 ^ (8 - 7) = 2 from rfl, lw_last _ _ _ (by omega)]
  rfl
theorem lev_facts (l p : Nat) (hl : l < 7) (hp : p < 256) :
    Hf (2 ^ (7 - l)) ∧ 2 ^ (8 - l) = 2 * 2 ^ (7 - l) ∧ 2 ^ (8 - (l + 1)) = 2 ^ (7 - l) ∧ p / (2 * 2 ^ (7 - l)) < 2 ^ l ∧
    (p % (2 * 2 ^ (7 - l)) < 2 ^ (7 - l) → p / 2 ^ (7 - l) = 2 * (p / (2 * 2 ^ (7 - l))) ∧ p % 2 ^ (7 - l) = p % (2 * 2 ^ (7 - l)) ∧ (p + 2 ^ (7 - l)) / (2 * 2 ^ (7 - l)) = p / (2 * 2 ^ (7 - l)) ∧ (p + 2 ^ (7 - l)) % (2 * 2 ^ (7 - l)) = p % (2 * 2 ^ (7 - l)) + 2 ^ (7 - l) ∧ p + 2 ^ (7 - l) < 256 ∧
      (p + 2 ^ (7 - l)) / 2 ^ (7 - l) = 2 * (p / (2 * 2 ^ (7 - l))) + 1 ∧ (p + 2 ^ (7 - l)) % 2 ^ (7 - l) = p % (2 * 2 ^ (7 - l))) ∧
    (¬ p % (2 * 2 ^ (7 - l)) < 2 ^ (7 - l) → ∃ q, p = q + 2 ^ (7 - l) ∧ q % (2 * 2 ^ (7 - l)) < 2 ^ (7 - l) ∧ q < 256 ∧ q / (2 * 2 ^ (7 - l)) = p / (2 * 2 ^ (7 - l))) := by
  unfold Hf
  have hq : ∀ n, ¬ p % (2 * n) < n → n = 128 ∨ n = 64 ∨ n = 32 ∨ n = 16 ∨ n = 8 ∨ n = 4 ∨ n = 2 → ∃ q, p = q + n ∧ q % (2 * n) < n ∧ q < 256 ∧ q / (2 * n) = p / (2 * n) := by
    intro n h1 h2
    refine ⟨p - n, ?_⟩
    rcases h2 with rfl | rfl | rfl | rfl | rfl | rfl | rfl <;> omega
  have : l = 0 ∨ l = 1 ∨ l = 2 ∨ l = 3 ∨ l = 4 ∨ l = 5 ∨ l = 6 := by omega
  rcases this with rfl | rfl | rfl | rfl | rfl | rfl | rfl <;> refine ⟨by decide, by decide, by decide, ?_, ?_, fun h => hq _ h (by decide)⟩ <;> simp only [Nat.reducePow, Nat.reduceSub, Nat.reduceMul] <;> omega
/-- Apart: what a pair becomes. -/
def sp1 (z a b : FZ) : FZ := a + z * b
def sp2 (z a b : FZ) : FZ := a - z * b
/-- Together: what a pair becomes. -/
def jn1 (z a b : FZ) : FZ := a + b
def jn2 (z a b : FZ) : FZ := z * (b - a)
theorem xg_fwd (f : Nat → FZ) (l p : Nat) (hl : l < 7) (hp : p < 256) : xg (2 ^ (7 - l)) (fun b => zt (2 ^ l + b)) sp1 sp2 (stg f l) p = stg f (l + 1) p := by
  obtain ⟨-, e1, e2, hb, hlo, hhi⟩ := lev_facts l p hl hp
  unfold xg
  by_cases h : p % (2 * 2 ^ (7 - l)) < 2 ^ (7 - l)
  · obtain ⟨d1, d2, d3, d4, -⟩ := hlo h
    rw [if_pos h]
    unfold sp1 stg
    rw [e1, e2, d1, d2, d3, d4, lw_even _ _ _ _ hl hb]
  · obtain ⟨q, rfl, hq1, hq2, hq3⟩ := hhi h
    obtain ⟨-, -, -, hbq, hlq, -⟩ := lev_facts l q hl hq2
    obtain ⟨d1, d2, d3, d4, d5, d6, d7⟩ := hlq hq1
    rw [if_neg h, Nat.add_sub_cancel]
    unfold sp2 stg
    rw [e1, e2, d6, d7, d3, d4, lw_odd _ _ _ _ hl hbq]
theorem zt_back : ∀ l : Fin 7, ∀ b : Fin 64, b.val < 2 ^ l.val → zt (2 ^ (l.val + 1) - 1 - b.val) * zt (2 ^ l.val + b.val) = -1 := by decide +kernel
theorem xg_inv (f : Nat → FZ) (c : FZ) (l p : Nat) (hl : l < 7) (hp : p < 256) : xg (2 ^ (7 - l)) (fun b => zt (2 ^ (l + 1) - 1 - b)) jn1 jn2 (fun p => c * stg f (l + 1) p) p = 2 * c * stg f l p := by
  obtain ⟨-, e1, e2, hb, hlo, hhi⟩ := lev_facts l p hl hp
  unfold xg
  by_cases h : p % (2 * 2 ^ (7 - l)) < 2 ^ (7 - l)
  · obtain ⟨d1, d2, d3, d4, d5, d6, d7⟩ := hlo h
    rw [if_pos h]
    unfold jn1 stg
    dsimp only
    rw [e1, e2, d1, d2, d6, d7, lw_even _ _ _ _ hl hb, lw_odd _ _ _ _ hl hb]
    generalize lw f l _ _ = a
    generalize zt _ * _ = b
    grind -lia
  · obtain ⟨q, rfl, hq1, hq2, hq3⟩ := hhi h
    obtain ⟨-, -, -, hbq, hlq, -⟩ := lev_facts l q hl hq2
    obtain ⟨d1, d2, d3, d4, d5, d6, d7⟩ := hlq hq1
    rw [if_neg h, Nat.add_sub_cancel]
    unfold jn2 stg
    dsimp only
    rw [e1, e2, d6, d7, d3, d4, d1, d2, lw_even _ _ _ _ hl hbq, lw_odd _ _ _ _ hl hbq]
    have h64 : q / (2 * 2 ^ (7 - l)) < 64 := Nat.lt_of_lt_of_le hbq (Nat.pow_le_pow_right (by decide) (by omega : l ≤ 6))
    have hz := zt_back ⟨l, hl⟩ ⟨_, h64⟩ hbq
    simp only at hz
    generalize zt (2 ^ (l + 1) - 1 - _) = z' at hz
    generalize zt (2 ^ l + _) = z at hz
    generalize lw f l (q / (2 * 2 ^ (7 - l))) (q % (2 * 2 ^ (7 - l))) = a
    generalize lw f l _ _ = b
    grind -lia
theorem inv_end (g : Nat → FZ) (p : Nat) (hp : p < 256) : 3303 * (128 * stg (inw g) 0 p) = inw g p := by
  rw [stg_first _ _ hp]
  generalize inw g p = a
  have : (3303 : FZ) * 128 = 1 := by decide
  grind -lia
end Go.Proofs.YtbladcgdbhogcaaDoor
