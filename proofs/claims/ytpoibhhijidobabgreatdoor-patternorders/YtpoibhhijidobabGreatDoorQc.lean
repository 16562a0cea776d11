/- What functions of the program, or of the reference, answer: contracts; several texts in one. -/
import Derived.Test.YtpoibhhijidobabGreatDoorQa
import Derived.Lib.Split
import Derived.Lib.SplitLaws
import Derived.Lib.TrimByte
import Derived.Lib.Strings
import Derived.Lib.Join
import Derived.Lib.SlicesS
import Derived.Test.YtpoibhhijidobabGreatDoorShelf
import Derived.Test.YtpoibhhijidobabGreatDoorQb
import Derived.OwnWalk
import Derived.Test.YtpoibhhijidobabGreatDoorBase
import Derived.Laws.Concat
import Derived.Deep.DeepCutAuto

/- What the library's functions over texts come to: parts between a byte, blanks at the ends, prefixes, joined texts. No program's text is named. -/
namespace Go.Proofs.YtpoibhhijidobabGreatDoor
set_option linter.unusedSimpArgs false
set_option linter.unusedVariables false

theorem drop_tf (s : List UInt8) : s.dropWhile (· == 32) = tfT s := by
  induction s with
  | nil => rfl
  | cons x t ih =>
    show _ = if x = 32 then tfT t else x :: t
    by_cases h : x = 32
    · rw [if_pos h, List.dropWhile_cons_of_pos (by simpa using h), ih]
    · rw [if_neg h, List.dropWhile_cons_of_neg (by simpa using h)]
theorem trimR_te (s : List UInt8) : Lib.trimRightB s 32 = teT s := by
  unfold Lib.trimRightB teT
  rw [drop_tf]
theorem tfT_snoc (x : UInt8) : ∀ l : List UInt8, tfT (l ++ [x]) = if tfT l = [] then tfT [x] else tfT l ++ [x]
  | [] => by simp [tfT]
  | y :: l => by
    show (if y = 32 then tfT (l ++ [x]) else y :: (l ++ [x])) = if (if y = 32 then tfT l else y :: l) = [] then tfT [x] else (if y = 32 then tfT l else y :: l) ++ [x]
    by_cases h : y = 32
    · simp only [if_pos h]
      exact tfT_snoc x l
    · simp [h]
theorem teT_cons (x : UInt8) (t : List UInt8) : teT (x :: t) = if teT t = [] then (if x = 32 then [] else [x]) else x :: teT t := by
  unfold teT
  rw [List.reverse_cons, tfT_snoc]
  by_cases h : tfT t.reverse = []
  · rw [if_pos h, h]
    by_cases hx : x = 32 <;> simp [tfT, hx]
  · rw [if_neg h, if_neg (by simpa using h)]
    simp
theorem tf_te : ∀ s : List UInt8, tfT (teT s) = teT (tfT s)
  | [] => rfl
  | x :: t => by
    have ih := tf_te t
    have e : tfT (x :: t) = if x = 32 then tfT t else x :: t := rfl
    rw [teT_cons, e]
    by_cases hx : x = 32
    · simp only [if_pos hx]
      by_cases h : teT t = []
      · rw [if_pos h, ← ih, h]
      · rw [if_neg h, ← ih, hx]
        rfl
    · simp only [if_neg hx]
      rw [teT_cons]
      by_cases h : teT t = []
      · rw [if_pos h, if_pos h, if_neg hx]
        simp [tfT, hx]
      · rw [if_neg h, if_neg h]
        simp [tfT, hx]
theorem trim_tm (s : List UInt8) : Lib.trimB s 32 = tmT s := by
  unfold Lib.trimB Lib.trimLeftB tmT
  rw [trimR_te, drop_tf, tf_te]
theorem index_one_nil (c : UInt8) : Lib.index [] [c] = -1 := by simp [Lib.index]
theorem index_one_hit (c : UInt8) (t : List UInt8) : Lib.index (c :: t) [c] = 0 := by simp [Lib.index]
theorem index_one_skip (c x : UInt8) (h : x ≠ c) (t : List UInt8) : Lib.index (x :: t) [c] = if Lib.index t [c] == -1 then -1 else Lib.index t [c] + 1 := by
  have : ([c] : List UInt8).isPrefixOf (x :: t) = false := by simp [List.isPrefixOf]; exact fun e => absurd e.symm h
  simp [Lib.index, this]
theorem spl_lib (c : UInt8) : ∀ s : List UInt8, Lib.splitK [c] 0 (Lib.count s [c]) s = splL c s
  | [] => by rw [Lib.count_miss (index_one_nil c)]; rfl
  | x :: t => by
    have ih := spl_lib c t
    by_cases hx : x = c
    · subst hx
      rw [Lib.count_hit (i := 0) (by simp) (index_one_hit x t), Nat.add_comm 1]
      unfold Lib.splitK
      rw [index_one_hit]
      show _ :: Lib.splitK [x] 0 (Lib.count t [x]) t = if x = x then [] :: splL x t else _
      rw [ih, if_pos rfl]
      rfl
    · by_cases hi : Lib.index t [c] = -1
      · have h1 : Lib.index (x :: t) [c] = -1 := by rw [index_one_skip c x hx, hi]; rfl
        rw [Lib.count_miss h1]
        rw [Lib.count_miss hi] at ih
        exact (splL_cons c x hx t t [] ih.symm).symm
      · have hge := Lib.index_ge t [c]
        obtain ⟨i, hi2⟩ : ∃ i : Nat, Lib.index t [c] = i := ⟨(Lib.index t [c]).toNat, by omega⟩
        have h1 : Lib.index (x :: t) [c] = ((i + 1 : Nat) : Int) := by
          rw [index_one_skip c x hx, hi2, if_neg (by simp <;> omega)]
          omega
        have e1 := Lib.count_hit (i := i + 1) (by simp) h1
        have e2 := Lib.count_hit (i := i) (by simp) hi2
        have e3 : (x :: t).drop (i + 1 + [c].length) = t.drop (i + [c].length) := by
          show (x :: t).drop (i + 1 + 1) = t.drop (i + 1)
          rfl
        rw [e3, ← e2] at e1
        rw [e1]
        rw [e2, Nat.add_comm 1] at ih ⊢
        unfold Lib.splitK at ih ⊢
        rw [hi2, if_neg (by simp <;> omega)] at ih
        rw [h1, if_neg (by simp <;> omega)]
        have := splL_cons c x hx t _ _ ih.symm
        rw [this]
        have a1 : ((i : Int)).toNat = i := by omega
        have a2 : (((i + 1 : Nat) : Int)).toNat = i + 1 := by omega
        rw [a1, a2]
        rfl
/-- Parts of a text, as the library's function makes them. -/
theorem split_lib (c : UInt8) (s : List UInt8) : (Lib.splitB ⟨#[c]⟩ 0 (Lib.countB ⟨s.toArray⟩ ⟨#[c]⟩) ⟨s.toArray⟩) = (splL c s).map fun l => ⟨l.toArray⟩ := by
  have h := Lib.splitB_data ⟨#[c]⟩ 0 (Lib.countB ⟨s.toArray⟩ ⟨#[c]⟩) ⟨s.toArray⟩
  have e : Lib.splitK (⟨#[c]⟩ : ByteArray).data.toList 0 (Lib.countB ⟨s.toArray⟩ ⟨#[c]⟩) (⟨s.toArray⟩ : ByteArray).data.toList = splL c s := by
    show Lib.splitK [c] 0 (Lib.count s.toArray.toList [c]) s.toArray.toList = _
    rw [List.toList_toArray]
    exact spl_lib c s
  rw [e] at h
  rw [← h, List.map_map]
  have : ((fun l : List UInt8 => (⟨l.toArray⟩ : ByteArray)) ∘ fun x : ByteArray => x.data.toList) = id := by
    funext x
    simp
  rw [this, List.map_id]
theorem count_lib (c : UInt8) (s : List UInt8) : Lib.countB ⟨s.toArray⟩ ⟨#[c]⟩ + 1 = (splL c s).length := by
  have := congrArg List.length (split_lib c s)
  rw [List.length_map] at this
  rw [← this]
  exact (Lib.splitB_all ⟨#[c]⟩ (by show 1 ≤ 1; omega) 0 _ ⟨s.toArray⟩ rfl).symm
end Go.Proofs.YtpoibhhijidobabGreatDoor

/- The library's functions over texts, at the lengths that texts have here: contracts that package pattern stands on. -/
namespace Go.Proofs.YtpoibhhijidobabGreatDoor
open Go.ChangeShapes Go.WideShapes Go.ChangeAt Go.RowKit
set_option linter.unusedSimpArgs false
set_option linter.unusedVariables false

/-- The tables, and a number of the library's. -/
structure TkT (w : World) : Prop where
  words : ∀ i, i < 11 → w.cell? ⟨0, i, none⟩ = some (.string ⟨(wdL.getD i []).toArray⟩)
  ar0 : w.cell? ⟨1, 0, none⟩ = some (.string ⟨#[45, 62]⟩)
  ar1 : w.cell? ⟨1, 1, none⟩ = some (.string ⟨#[60, 45]⟩)
  mx : ∃ m, w.cell? ⟨2, 0, none⟩ = some (.int .i64 m)
theorem TkT.kept {w w' : World} (h : TkT w) (hb : Below w.heap.size w w') : TkT w' :=
  ⟨fun i hi => cellKP (h.words i hi) hb, cellKP h.ar0 hb, cellKP h.ar1 hb, h.mx.imp fun m hm => cellKP hm hb⟩
theorem stC_length15 (ls : List (List UInt8)) : (stC ls).length = ls.length := by simp [stC]
theorem mk_toList (s : List UInt8) : (⟨s.toArray⟩ : ByteArray).data.toList = s := by simp
theorem split_any (c : UInt8) (s : List UInt8) (hs : s.length ≤ 1000000) (w : World) (hT : TkT w) :
    Calls Tryz.prog 53 #[.string ⟨s.toArray⟩, .string ⟨#[c]⟩] w fun e w' => ∃ v, e = .returned v ∧ OwnG w [Rw.st v (splL c s)] w' := by
  obtain ⟨m, hm⟩ := hT.mx
  refine (Tryz.strings_Split ⟨s.toArray⟩ ⟨#[c]⟩ m w (by rw [str_size]; omega) hm (by show 1 ≤ 1; omega)).mono ?_
  rintro e w' ⟨rfl, rfl⟩
  refine ⟨_, rfl, ?_⟩
  rw [split_lib, count_lib, List.map_map]
  have hl := splL_count c s
  exact (OwnG.start w).lit 9 1 (splL c s).length w.heap.size (stC (splL c s)) _ rfl rfl (by unfold maxLen; omega) (by simp [stC])
theorem trim_any (s : List UInt8) (hs : s.length ≤ 1000000) (w : World) :
    Calls Tryz.prog 54 #[.string ⟨s.toArray⟩, .string ⟨#[32]⟩] w fun e w' => e = .returned (.string ⟨(tmT s).toArray⟩) ∧ Below w.heap.size w w' := by
  refine (Tryz.strings_Trim_one ⟨s.toArray⟩ 32 (by decide) w (by rw [str_size]; omega)).mono ?_
  rintro e w' ⟨rfl, hw⟩
  rw [mk_toList, trim_tm]
  refine ⟨rfl, ?_⟩
  rcases hw with rfl | rfl
  · exact Below.refl _ _
  · exact (Below.refl _ _).drew
theorem trimR_any (s : List UInt8) (hs : s.length ≤ 1000000) (w : World) :
    Calls Tryz.prog 70 #[.string ⟨s.toArray⟩, .string ⟨#[32]⟩] w fun e w' => e = .returned (.string ⟨(teT s).toArray⟩) ∧ w' = w := by
  refine (Tryz.strings_TrimRight_one ⟨s.toArray⟩ 32 (by decide) w (by rw [str_size]; omega)).mono ?_
  rintro e w' ⟨rfl, hw⟩
  rw [mk_toList, trimR_te]
  exact ⟨rfl, hw⟩
theorem cutP_any (s p : List UInt8) (w : World) :
    Calls Tryz.prog 101 #[.string ⟨s.toArray⟩, .string ⟨p.toArray⟩] w fun e w' => e = .returned (.tuple #[.string ⟨(if p.isPrefixOf s then s.drop p.length else s).toArray⟩, .bool (p.isPrefixOf s)]) ∧ w' = w := by
  refine (Tryz.strings_CutPrefix ⟨s.toArray⟩ ⟨p.toArray⟩ w).mono ?_
  rintro e w' ⟨rfl, hw⟩
  rw [mk_toList, mk_toList]
  exact ⟨rfl, hw⟩
theorem cutS_any (s p : List UInt8) (hs : s.length ≤ 1000000) (w : World) :
    Calls Tryz.prog 68 #[.string ⟨s.toArray⟩, .string ⟨p.toArray⟩] w fun e w' => e = .returned (.tuple #[.string ⟨(if p.isSuffixOf s then s.take (s.length - p.length) else s).toArray⟩, .bool (p.isSuffixOf s)]) ∧ w' = w := by
  refine (Tryz.strings_CutSuffix ⟨s.toArray⟩ ⟨p.toArray⟩ w (by rw [str_size]; omega)).mono ?_
  rintro e w' ⟨rfl, hw⟩
  rw [mk_toList, mk_toList]
  exact ⟨rfl, hw⟩
set_option maxHeartbeats 1000000 in
theorem clone_any (s : List UInt8) (hs : s.length ≤ 1000000) (w : World) :
    Calls Tryz.prog 69 #[.string ⟨s.toArray⟩] w fun e w' => e = .returned (.string ⟨s.toArray⟩) ∧ Below w.heap.size w w' := by
  have HC : Hid (Calls Tryz.prog 89 #[.string ⟨s.toArray⟩] w fun e w' => e = .returned (.string ⟨s.toArray⟩) ∧ Below w.heap.size w w') := Tryz.stringslite_Clone ⟨s.toArray⟩ w (by rw [str_size]; omega)
  generalize (⟨s.toArray⟩ : ByteArray) = S at HC ⊢
  go_enter Tryz.func69, Tryz.ntmps69
  go_wp2_with fail
  refine HC.out.mono ?_
  rintro e w1 ⟨rfl, b1⟩
  go_wp2
  go_ret
  exact ⟨rfl, b1⟩
/-- Texts joined. -/
def jnL (sep : List UInt8) (ls : List (List UInt8)) : List UInt8 := sep.intercalate ls
theorem join_any (sep : List UInt8) (ls : List (List UInt8)) (v : Value) (w : World) (h : RdC w v (stC ls)) (hn : ls.length ≤ 1000000) (hl : (jnL sep ls).length ≤ 1000000) :
    Calls Tryz.prog 24 #[v, .string ⟨sep.toArray⟩] w fun e w' => e = .returned (.string ⟨(jnL sep ls).toArray⟩) ∧ Below w.heap.size w w' := by
  obtain ⟨a, c, rfl, h2, h3, h4, h5⟩ := h
  rw [stC_length15] at h2 h5 ⊢
  rcases h5 with h | ⟨b, off, rfl, hc⟩
  · have : ls = [] := List.map_eq_nil_iff.1 h
    subst this
    refine (Tryz.strings_Join_none a c ⟨sep.toArray⟩ w).mono ?_
    rintro e w' ⟨rfl, rfl⟩
    exact ⟨rfl, Below.refl _ _⟩
  · by_cases h0 : ls = []
    · subst h0
      refine (Tryz.strings_Join_none (some ⟨b, off, none⟩) c ⟨sep.toArray⟩ w).mono ?_
      rintro e w' ⟨rfl, rfl⟩
      exact ⟨rfl, Below.refl _ _⟩
    · have e1 : (ls.map fun l => (⟨l.toArray⟩ : ByteArray)).map (·.data.toList) = ls := by
        rw [List.map_map]
        have : ((fun x : ByteArray => x.data.toList) ∘ fun l : List UInt8 => (⟨l.toArray⟩ : ByteArray)) = id := by funext x; simp
        rw [this, List.map_id]
      have hlt : b < w.heap.size := by
        have hp : 0 < ls.length := List.length_pos_iff.2 h0
        have := hc 0 (by simpa using hp)
        have e : (stC ls)[0]? = some (.string ⟨ls[0].toArray⟩) := by simp [stC, hp]
        rw [e] at this
        exact World.block_lt_of_cell? _ _ this
      have := Tryz.strings_Join b off c (ls.map fun l => (⟨l.toArray⟩ : ByteArray)) ⟨sep.toArray⟩ w (fun j x hx => by
        have hj : j < ls.length := by
          rcases Nat.lt_or_ge j ls.length with h | h
          · exact h
          · simp [h] at hx
        have h6 := hc j (by simpa using hj)
        rw [h6]
        simp [hj] at hx
        simp [stC, hj, hx]) hlt (by rw [List.length_map]; omega) (by rw [List.length_map]; exact h2) (by rw [e1, mk_toList]; exact Nat.le_trans hl (by omega))
      rw [e1, mk_toList, List.length_map] at this
      exact this
/-- The place of a text among texts. -/
def ixL (x : List UInt8) : List (List UInt8) → Int
  | [] => -1
  | z :: zs => if z = x then 0 else if ixL x zs = -1 then -1 else ixL x zs + 1
theorem ixL_ge (x : List UInt8) : ∀ zs, -1 ≤ ixL x zs
  | [] => by simp [ixL]
  | z :: zs => by
    have := ixL_ge x zs
    unfold ixL
    split
    · omega
    · split <;> omega
theorem ix_lib (x : List UInt8) : ∀ (zs : List (List UInt8)) (i : Nat), Lib.idxFromS (zs.map fun l => ⟨l.toArray⟩) ⟨x.toArray⟩ i = if ixL x zs = -1 then -1 else ixL x zs + i
  | [], i => by simp [Lib.idxFromS, ixL]
  | z :: zs, i => by
    have ih := ix_lib x zs (i + 1)
    have hge := ixL_ge x zs
    show (if (⟨z.toArray⟩ : ByteArray) = ⟨x.toArray⟩ then (i : Int) else Lib.idxFromS (zs.map fun l => ⟨l.toArray⟩) ⟨x.toArray⟩ (i + 1)) = _
    rw [ih]
    have eu : ixL x (z :: zs) = if z = x then 0 else if ixL x zs = -1 then -1 else ixL x zs + 1 := rfl
    rw [eu]
    by_cases h : z = x
    · subst h
      simp
    · have h2 : ¬ (⟨z.toArray⟩ : ByteArray) = ⟨x.toArray⟩ := fun e => h (by have := congrArg (fun b : ByteArray => b.data.toList) e; simpa using this)
      rw [if_neg h2, if_neg h]
      by_cases h3 : ixL x zs = -1
      · rw [if_pos h3, if_pos h3, if_pos rfl]
      · rw [if_neg h3, if_neg h3, if_neg (by omega)]
        omega
theorem idxS_any (x : List UInt8) (ls : List (List UInt8)) (v : Value) (w : World) (h : RdC w v (stC ls)) (hn : ls.length ≤ 1000000) :
    Calls Tryz.prog 71 #[v, .string ⟨x.toArray⟩] w fun e w' => e = .returned (.int .i64 (ixL x ls)) ∧ w' = w := by
  obtain ⟨a, c, rfl, h2, h3, h4, h5⟩ := h
  rw [stC_length15] at h2 h5 ⊢
  have e0 : ∀ zs : List (List UInt8), Lib.idxOfS (zs.map fun l => ⟨l.toArray⟩) ⟨x.toArray⟩ = ixL x zs := fun zs => by
    have := ix_lib x zs 0
    unfold Lib.idxOfS
    rw [this]
    have := ixL_ge x zs
    by_cases h : ixL x zs = -1
    · rw [if_pos h, h]
    · rw [if_neg h]; simp
  rcases h5 with h | ⟨b, off, rfl, hc⟩
  · have : ls = [] := List.map_eq_nil_iff.1 h
    subst this
    refine (Tryz.slices_Index_string_empty a c ⟨x.toArray⟩ w).mono ?_
    rintro e w' ⟨rfl, hw⟩
    exact ⟨rfl, hw⟩
  · have := Tryz.slices_Index_string b off ls.length c (ls.map fun l => (⟨l.toArray⟩ : ByteArray)) ⟨x.toArray⟩ w (by rw [List.length_map]; exact Nat.le_refl _) (by omega) (fun j hj => by
      have hj2 : j < ls.length := by simpa using hj
      rw [hc j (by simpa using hj2)]
      simp [stC, hj2])
    rw [List.take_of_length_le (by rw [List.length_map]; exact Nat.le_refl _), e0] at this
    exact this
end Go.Proofs.YtpoibhhijidobabGreatDoor

/- The lines of a pattern's text: contracts of package pattern, twelfth part. -/
namespace Go.Proofs.YtpoibhhijidobabGreatDoor
open Go.ChangeShapes Go.WideShapes Go.ChangeAt Go.RowKit
set_option linter.unusedSimpArgs false
set_option linter.unusedVariables false

/-- One text behind another. -/
theorem addP (x y z : List UInt8) (X Y Z : ByteArray) (hX : X = ⟨x.toArray⟩) (hY : Y = ⟨y.toArray⟩) (hZ : Z = ⟨z.toArray⟩) (hz : z = x ++ y) (hx : x.length ≤ 100000) (hy : y.length ≤ 100000) (W : World) : (Op.stringOp .add X Y).run Tryz.prog W = .ok (.string Z) W := by
  subst hX hY hZ hz
  exact run_string_add_lists W x y (by omega) (by omega)
theorem jn_cons (sep a b : List UInt8) (r : List (List UInt8)) : jnL sep (a :: b :: r) = a ++ (sep ++ jnL sep (b :: r)) := by simp [jnL, List.intercalate, List.intersperse]
theorem jn_one (sep a : List UInt8) : jnL sep [a] = a := by simp [jnL, List.intercalate]
theorem jn_snoc (sep x : List UInt8) : ∀ l, jnL sep (l ++ [x]) = if l = [] then x else jnL sep l ++ sep ++ x
  | [] => by simp [jn_one]
  | [a] => by
    rw [show ([a] : List (List UInt8)) ++ [x] = a :: x :: [] from rfl, jn_cons, jn_one, jn_one]
    simp
  | a :: b :: r => by
    have ih := jn_snoc sep x (b :: r)
    rw [if_neg (by simp)] at ih
    rw [show (a :: b :: r) ++ [x] = a :: b :: (r ++ [x]) from rfl, jn_cons]
    rw [show (b :: (r ++ [x])) = (b :: r) ++ [x] from rfl, ih, if_neg (by simp), jn_cons]
    simp
/-- The words of the first tokens. -/
def wsL (t : List Int) (j : Nat) : List (List UInt8) := (t.take j).map fun x => wdL.getD x.toNat []
theorem wsL_next (t : List Int) (j : Nat) (h : j < t.length) : wsL t (j + 1) = wsL t j ++ [wdL.getD (t.getD j 0).toNat []] := by
  unfold wsL
  rw [List.take_add_one, List.getElem?_eq_getElem h, List.map_append]
  simp [h]
theorem wsL_len (t : List Int) (j : Nat) : (wsL t j).length ≤ j := by
  unfold wsL
  rw [List.length_map, List.length_take]
  omega
theorem ws_tx (t : List Int) : ∀ j, j ≤ t.length → jnL [44, 32] (wsL t j) = txR t j
  | 0, _ => by simp [wsL, jnL, List.intercalate, txR]
  | j + 1, h => by
    rw [wsL_next t j (by omega), jn_snoc]
    show _ = txR t j ++ (if 0 < j then [44, 32] else []) ++ wdL.getD (t.getD j 0).toNat []
    by_cases h0 : j = 0
    · subst h0
      simp [wsL, txR]
    · have : wsL t j ≠ [] := by
        intro e
        have : (wsL t j).length = j := by unfold wsL; rw [List.length_map, List.length_take]; omega
        rw [e] at this
        simp at this
        omega
      rw [if_neg this, if_pos (by omega), ws_tx t j (by omega)]
/-- The line in which a side says tokens. -/
def mlL (b : Bool) (t : List Int) : List UInt8 := txD b ++ txR t t.length

set_option maxRecDepth 100000 in
set_option maxHeartbeats 8000000 in
theorem line_any (b : Bool) (S : Int) (hS : S = if b then 0 else 1) (t : List Int) (vt : Value) (ht : t.length ≤ 12) (hx : ∀ j, j < t.length → 1 ≤ t.getD j 0 ∧ t.getD j 0 ≤ 10) (w : World) (h : RdI .i64 w vt t) (hT : TkT w) :
    Calls Tryz.prog 22 #[.int .i64 S, vt] w fun e w' => e = .returned (.string ⟨(mlL b t).toArray⟩) ∧ Below w.heap.size w w' := by
  obtain ⟨ti, hti, hz0, hz1, hz2⟩ := info_parts infoStr
  obtain ⟨a, c, rfl, h1, h2, -, -⟩ := id h
  unfold maxLen at h2
  obtain ⟨M, hM⟩ : ∃ M : Nat, M = t.length := ⟨_, rfl⟩
  have HR : Hid (RdI .i64 w (.slice a M c) t) := by rw [hM]; exact h
  rw [← hM] at h1 ht hx
  rw [← hM]
  have HM : Hid (M = t.length) := hM
  have HX : Hid (∀ j, j < M → 1 ≤ t.getD j 0 ∧ t.getD j 0 ≤ 10) := hx
  have HT : Hid (TkT w) := hT
  have HSs : Hid (S = if b then 0 else 1) := hS
  have hO0 : OwnG w [Rw.st (.slice none 0 0) (wsL t 0)] w := (OwnG.start w).nil 9 1
  clear h hM hx hT hS
  go_enter Tryz.func22, Tryz.ntmps22
  go_wp2
  go_loopw [5, 10] (fun ov iv wx => ∃ i : Nat, i ≤ M ∧ iv = .int .i64 (i : Int) ∧ OwnG w [Rw.st ov (wsL t i)] wx) (fun _ iv _ => M - (intOf iv).toNat)
  case atStart => exact ⟨0, by omega, rfl, hO0⟩
  case round =>
    obtain ⟨j, hj, rfl, hO⟩ := hrel
    clear hO0
    by_cases hltj : j < M
    · have hdj : decide ((j : Int) < (M : Int)) = true := decide_eq_true (by omega)
      have hjI : (j : Int) < (M : Int) := by omega
      obtain ⟨gr, or, c', ev, -, hcj, -⟩ := (HR.out.kept hO.below).cellAt (i := j) (by rw [← HM.out]; exact hltj)
      simp only [Value.slice.injEq] at ev
      obtain ⟨rfl, -, rfl⟩ := ev
      obtain ⟨k, hk⟩ : ∃ k : Nat, (k : Int) = t.getD j 0 := ⟨(t.getD j 0).toNat, by have := HX.out j hltj; omega⟩
      have hk1 : 1 ≤ k ∧ k ≤ 10 := by have := HX.out j hltj; omega
      rw [← hk] at hcj
      have hw := cellKP (HT.out.words k (by omega)) hO.below
      obtain ⟨W, hW⟩ : ∃ W : List UInt8, W = wdL.getD k [] := ⟨_, rfl⟩
      rw [← hW] at hw
      have HW : Hid (wsL t j ++ [W] = wsL t (j + 1)) := by show _ = _; rw [wsL_next t j (by rw [← HM.out]; exact hltj), ← hk, hW, Int.toNat_natCast]
      obtain ⟨LL, hLL⟩ : ∃ L : List (List UInt8), L = wsL t j := ⟨_, rfl⟩
      rw [← hLL] at hO HW
      have hLn : LL.length ≤ 12 := by rw [hLL]; have := wsL_len t j; omega
      have hkI : (k : Int) < 11 := by omega
      obtain ⟨WB, hWB⟩ : ∃ B : ByteArray, B = ⟨W.toArray⟩ := ⟨_, rfl⟩
      rw [← hWB] at hw
      have HN : Hid (stC LL ++ [.string WB] = stC (wsL t (j + 1))) := by show _ = _; rw [hWB, stC_next, HW.out]
      have HL : Hid (LL.length + 1 = (wsL t (j + 1)).length) := by show _ = _; rw [← HW.out]; simp
      clear hk hW hLL hWB
      go_wp2_with (at_builtin; go_must (refine wpList_append_E rfl _ _ 54 rfl 9 ti _ 1 16 Tryz.underlying54 hti hz0 hz1 hz2 rfl (by decide) _ LL.length (stC LL) rfl (hO.kept (growB _)) ⟨wr.heap.size, 0, none⟩ 1 1 [.string WB] rfl rfl (news1 _ rfl) (by intro u hu; simp at hu; subst hu; rfl) (by unfold maxLen; omega) (by omega) ?_))
      intro v6 w6 hO6 hC6
      rw [HN.out, HL.out] at hO6
      clear hO hC6
      go_wp2
      go_roundw
      case rel => exact ⟨j + 1, by omega, by go_num, hO6⟩
      case measure => simp [intOf] <;> omega
    · have hdj : decide ((j : Int) < (M : Int)) = false := decide_eq_false (by omega)
      have hjI : (M : Int) ≤ (j : Int) := by omega
      have hje : j = t.length := by have := HM.out; omega
      rw [hje] at hO
      have HJ : Hid (RdC wr u5 (stC (wsL t t.length))) := hO.rdC rfl
      have HB : Hid (Below w.heap.size w wr.drew) := hO.below.drew
      have HTx : Hid (jnL [44, 32] (wsL t t.length) = txR t t.length) := ws_tx t _ (Nat.le_refl _)
      have HLx : Hid ((txR t t.length).length ≤ 100) := by have := txR_len t t.length; have := HM.out; show _ ≤ _; omega
      have HLw : Hid ((wsL t t.length).length ≤ 12) := by have := wsL_len t t.length; have := HM.out; show _ ≤ _; omega
      have hT1 := HT.out.kept hO.below
      obtain ⟨sb, AR, al, hsb, hSs, hcell, hARe, hal⟩ : ∃ (sb : Nat) (AR : ByteArray) (al : List UInt8), S = (sb : Int) ∧ (sb = 0 ∨ sb = 1) ∧ wr.cell? ⟨1, sb, none⟩ = some (.string AR) ∧ AR = ⟨al.toArray⟩ ∧ [32, 32] ++ al ++ [32] = txD b := by
        cases b with
        | true => exact ⟨0, _, [45, 62], HSs.out, .inl rfl, hT1.ar0, rfl, rfl⟩
        | false => exact ⟨1, _, [60, 45], HSs.out, .inr rfl, hT1.ar1, rfl, rfl⟩
      have hal2 : al.length = 2 := by
        have := congrArg List.length hal
        rw [txD_len] at this
        simp at this
        omega
      obtain ⟨X1, hX1⟩ : ∃ B : ByteArray, B = ⟨([32, 32] ++ al).toArray⟩ := ⟨_, rfl⟩
      obtain ⟨X2, hX2⟩ : ∃ B : ByteArray, B = ⟨(txD b).toArray⟩ := ⟨_, rfl⟩
      obtain ⟨X3, hX3⟩ : ∃ B : ByteArray, B = ⟨(txR t t.length).toArray⟩ := ⟨_, rfl⟩
      obtain ⟨X4, hX4⟩ : ∃ B : ByteArray, B = ⟨(mlL b t).toArray⟩ := ⟨_, rfl⟩
      have a1 := addP [32, 32] al _ ⟨#[32, 32]⟩ AR X1 rfl hARe hX1 rfl (by decide) (by omega)
      have a2 := addP ([32, 32] ++ al) [32] (txD b) X1 ⟨#[32]⟩ X2 hX1 rfl hX2 hal.symm (by simp; omega) (by decide)
      have a3 := addP (txD b) (txR t t.length) (mlL b t) X2 X3 X4 hX2 hX3 hX4 rfl (by rw [txD_len]; omega) (by have := HLx.out; omega)
      have HX3 : Hid (X3 = ⟨(txR t t.length).toArray⟩) := hX3
      have HX4 : Hid (X4 = ⟨(mlL b t).toArray⟩) := hX4
      have hsbI : (sb : Int) < 2 := by omega
      have hsI : (0 : Int) ≤ (sb : Int) := by omega
      subst hsb
      clear HSs hO hje hT1 hARe hal hal2 hX1 hX2 hX3 hX4 hSs
      go_wp2_with fail
      refine wpG_begin (by kernel_rfl) ?_
      refine wpG_take (i := 0) (oi := { dst := some 21, op := Op.move (Operand.tmp 0), type := 3, pos := "text.go:161", after := #[], guard := none }) (v := ?_) rfl (by kernel_rfl) (by kernel_rfl) (by kernel_rfl) (by rfl) ?_ ?_
      rotate_left
      · intro W hW; first | (go_simp; done) | (go_simp; with_reducible rfl)
      try simp only [Act.put, List.setIfInBounds_toArray, List.set_cons_zero, List.set_cons_succ]
      refine wpG_take (i := 1) (oi := { dst := some 22, op := Op.indexAddr 93 (Operand.global 1) (Operand.tmp 21), type := 0, pos := "text.go:161", after := #[{ on := 0, ground := Ground.data }], guard := none }) (v := ?_) rfl (by kernel_rfl) (by kernel_rfl) (by kernel_rfl) (by rfl) ?_ ?_
      rotate_left
      · intro W hW; first | (go_simp; done) | (go_simp; with_reducible rfl)
      try simp only [Act.put, List.setIfInBounds_toArray, List.set_cons_zero, List.set_cons_succ]
      refine wpG_take (i := 2) (oi := { dst := some 23, op := Op.load 9 (Operand.tmp 22), type := 9, pos := "text.go:161", after := #[{ on := 1, ground := Ground.data }], guard := none }) (v := ?_) rfl (by kernel_rfl) (by kernel_rfl) (by kernel_rfl) (by rfl) ?_ ?_
      rotate_left
      · intro W hW; have hcW := cellDK15 hcell hW; first | (go_simp; done) | (go_simp; with_reducible rfl)
      try simp only [Act.put, List.setIfInBounds_toArray, List.set_cons_zero, List.set_cons_succ]
      refine wpG_take (i := 3) (oi := { dst := some 24, op := Op.binOp BinOp.add 9 (Operand.const (Value.string { data := #[32, 32] })) (Operand.tmp 23) 9, type := 9, pos := "text.go:161", after := #[{ on := 2, ground := Ground.data }], guard := none }) (v := ?_) rfl (by kernel_rfl) (by kernel_rfl) (by kernel_rfl) (by rfl) ?_ ?_
      rotate_left
      · intro W hW; have ha := a1 W; first | (go_simp; done) | (go_simp; with_reducible rfl)
      try simp only [Act.put, List.setIfInBounds_toArray, List.set_cons_zero, List.set_cons_succ]
      refine wpG_take (i := 4) (oi := { dst := some 25, op := Op.binOp BinOp.add 9 (Operand.tmp 24) (Operand.const (Value.string { data := #[32] })) 9, type := 9, pos := "text.go:161", after := #[{ on := 3, ground := Ground.data }], guard := none }) (v := ?_) rfl (by kernel_rfl) (by kernel_rfl) (by kernel_rfl) (by rfl) ?_ ?_
      rotate_left
      · intro W hW; have ha := a2 W; first | (go_simp; done) | (go_simp; with_reducible rfl)
      try simp only [Act.put, List.setIfInBounds_toArray, List.set_cons_zero, List.set_cons_succ]
      refine wpG_take (i := 5) (oi := { dst := some 26, op := Op.move (Operand.tmp 5), type := 54, pos := "text.go:161", after := #[], guard := none }) (v := ?_) rfl (by kernel_rfl) (by kernel_rfl) (by kernel_rfl) (by rfl) ?_ ?_
      rotate_left
      · intro W hW; first | (go_simp; done) | (go_simp; with_reducible rfl)
      try simp only [Act.put, List.setIfInBounds_toArray, List.set_cons_zero, List.set_cons_succ]
      refine wpG_do (i := 6) (o := { dst := some 27, op := Op.call { callee := Callee.value (Operand.func 24), args := #[Operand.tmp 26, Operand.const (Value.string { data := #[44, 32] })], argTypes := #[54, 9] }, type := 9, pos := "text.go:161", after := #[{ on := 5, ground := Ground.data }], guard := none }) (by kernel_rfl) rfl (by rfl) fun K hK => ?_
      go_simp
      refine (join_any [44, 32] (wsL t t.length) u5 _ (HJ.out.kept (Below.refl _ _).drew) (by have := HLw.out; omega) (by rw [HTx.out]; have := HLx.out; omega)).mono ?_
      rintro e w2 ⟨rfl, b2⟩
      rw [HTx.out, ← HX3.out]
      refine hK.out _ _ b2 ?_
      clear hK K
      try simp only [Act.put, List.setIfInBounds_toArray, List.set_cons_zero, List.set_cons_succ]
      refine wpG_take (i := 7) (oi := { dst := some 28, op := Op.binOp BinOp.add 9 (Operand.tmp 25) (Operand.tmp 27) 9, type := 9, pos := "text.go:161", after := #[{ on := 4, ground := Ground.data }, { on := 6, ground := Ground.data }], guard := none }) (v := ?_) rfl (by kernel_rfl) (by kernel_rfl) (by kernel_rfl) (by rfl) ?_ ?_
      rotate_left
      · intro W hW; have ha := a3 W; first | (go_simp; done) | (go_simp; with_reducible rfl)
      try simp only [Act.put, List.setIfInBounds_toArray, List.set_cons_zero, List.set_cons_succ]
      refine wpG_take (i := 8) (oi := { dst := some 4, op := Op.assign (Operand.tmp 28), type := 9, pos := "text.go:161", after := #[{ on := 7, ground := Ground.data }, { on := 6, ground := Ground.chain }, { on := 0, ground := Ground.phase }, { on := 1, ground := Ground.phase }, { on := 2, ground := Ground.phase }, { on := 3, ground := Ground.phase }, { on := 4, ground := Ground.phase }, { on := 5, ground := Ground.phase }, { on := 6, ground := Ground.phase }, { on := 7, ground := Ground.phase }], guard := none }) (v := ?_) rfl (by kernel_rfl) (by kernel_rfl) (by kernel_rfl) (by rfl) ?_ ?_
      rotate_left
      · intro W hW; first | (go_simp; done) | (go_simp; with_reducible rfl)
      try simp only [Act.put, List.setIfInBounds_toArray, List.set_cons_zero, List.set_cons_succ]
      refine wpG_done (by kernel_rfl) ?_
      have HB2 : Hid (Below w.heap.size w w2) := stepB HB.out b2
      clear a1 a2 a3 b2
      go_wp2
      go_ret
      exact ⟨by rw [← HX4.out]; rfl, HB2.out⟩
end Go.Proofs.YtpoibhhijidobabGreatDoor

/- A text's lines and tokens: contracts of package pattern, fifteenth part. -/
namespace Go.Proofs.YtpoibhhijidobabGreatDoor
open Go.ChangeShapes Go.WideShapes Go.ChangeAt Go.RowKit
set_option linter.unusedSimpArgs false
set_option linter.unusedVariables false

theorem st_at {w : World} {a : Option Addr} {n c : Nat} {ls : List (List UInt8)} (h : RdC w (.slice a n c) (stC ls)) {k : Nat} (hk : k < ls.length) : ∃ b off, a = some ⟨b, off, none⟩ ∧ w.cell? ⟨b, off + k, none⟩ = some (.string ⟨(ls.getD k []).toArray⟩) := by
  obtain ⟨b, off, c', ev, -, -, hc⟩ := h.cellAt (i := k) (by rw [stC_length15]; exact hk)
  simp only [Value.slice.injEq] at ev
  obtain ⟨rfl, -, -⟩ := ev
  refine ⟨b, off, rfl, ?_⟩
  rw [hc]
  simp [stC, hk]
theorem st_len {w : World} {v : Value} {ls : List (List UInt8)} (h : RdC w v (stC ls)) : ∃ a c, v = .slice a ls.length c ∧ ls.length ≤ c ∧ c ≤ maxLen ∧ (a = none → c = 0) := by
  obtain ⟨a, c, e, h1, h2, h3, -⟩ := h
  rw [stC_length15] at e h1
  exact ⟨a, c, e, h1, h2, h3⟩

set_option maxRecDepth 100000 in
set_option maxHeartbeats 8000000 in
theorem linesOf_any (s : List UInt8) (hs : s.length ≤ 4096) (w : World) (hT : TkT w) :
    Calls Tryz.prog 26 #[.string ⟨s.toArray⟩] w fun e w' => ∃ v, e = .returned v ∧ OwnG w [Rw.st v (lnS s)] w' := by
  obtain ⟨ti, hti, hz0, hz1, hz2⟩ := info_parts infoStr
  have HC : Hid (Calls Tryz.prog 53 #[.string ⟨s.toArray⟩, .string ⟨#[10]⟩] w fun e w' => ∃ v, e = .returned v ∧ OwnG w [Rw.st v (splL 10 s)] w') := split_any 10 s (by omega) w hT
  have HP : Hid (∀ p ∈ splL 10 s, p.length ≤ 4096) := fun p hp => Nat.le_trans (splL_len 10 s p hp) hs
  have HE : Hid (lnT (splL 10 s) (splL 10 s).length = lnS s) := lnT_end s
  have hcnt := splL_count 10 s
  obtain ⟨ps, hps⟩ : ∃ l : List (List UInt8), l = splL 10 s := ⟨_, rfl⟩
  rw [← hps] at HC HP HE hcnt
  generalize (⟨s.toArray⟩ : ByteArray) = SB at HC ⊢
  have hpl : ps.length ≤ 4097 := by omega
  clear hps hcnt hT
  go_enter Tryz.func26, Tryz.ntmps26
  go_wp2_with fail
  refine HC.out.mono ?_
  rintro e w1 ⟨v, rfl, hO⟩
  obtain ⟨a, c, rfl, h1, h2, -⟩ := st_len (hO.rdC rfl)
  obtain ⟨n, hn⟩ : ∃ n : Nat, n = ps.length := ⟨_, rfl⟩
  have HN : Hid (n = ps.length) := hn
  have hO0 : OwnG w [Rw.st (.slice none 0 0) (lnT ps 0), ⟨9, 1, .slice a n c, n, stC ps⟩] w1 := by
    have : OwnG w [⟨9, 1, .slice a n c, n, stC ps⟩] w1 := by rw [hn]; exact hO
    exact this.nil 9 1
  rw [← hn] at h1 hpl ⊢
  unfold maxLen at h2
  clear hO HC hn
  go_wp2
  go_loopw [3, 9] (fun ov iv wx => ∃ i : Nat, i ≤ n ∧ iv = .int .i64 (i : Int) ∧ OwnG w [Rw.st ov (lnT ps i), ⟨9, 1, .slice a n c, n, stC ps⟩] wx) (fun _ iv _ => n - (intOf iv).toNat)
  case atStart => exact ⟨0, by omega, rfl, hO0⟩
  case round =>
    obtain ⟨i, hi, rfl, hO⟩ := hrel
    clear hO0
    by_cases hlt : i < n
    · have hd : decide ((i : Int) < (n : Int)) = true := decide_eq_true (by omega)
      have hiI : (i : Int) < (n : Int) := by omega
      have HIn : Hid (i < ps.length) := by show _ < _; rw [← HN.out]; exact hlt
      obtain ⟨b, off, rfl, g1⟩ := st_at (hO.tail.rdC rfl) HIn.out
      obtain ⟨x, hx⟩ : ∃ x : List UInt8, x = ps.getD i [] := ⟨_, rfl⟩
      rw [← hx] at g1
      have HXl : Hid (x.length ≤ 1000000) := by
        have h3 := HP.out x (by rw [hx]; have := HIn.out; simp [this])
        show _ ≤ _
        omega
      have HNx : Hid (lnT ps (i + 1) = if tmT x = [] then lnT ps i else lnT ps i ++ [tmT x]) := by
        show _ = _
        rw [lnT_next ps i HIn.out, hx]
        have := HIn.out
        simp [this]
      obtain ⟨LL, hLL⟩ : ∃ L : List (List UInt8), L = lnT ps i := ⟨_, rfl⟩
      rw [← hLL] at hO HNx
      have hLn : LL.length ≤ 4097 := by rw [hLL]; have := lnT_le ps i; omega
      have HC2 : Hid (∀ W : World, Calls Tryz.prog 54 #[.string ⟨x.toArray⟩, .string ⟨#[32]⟩] W fun e w' => e = .returned (.string ⟨(tmT x).toArray⟩) ∧ Below W.heap.size W w') := fun W => trim_any x HXl.out W
      generalize (⟨x.toArray⟩ : ByteArray) = XB at g1 HC2
      clear hx hLL
      go_wp2_with fail
      refine (HC2.out _).mono ?_
      rintro e w2 ⟨rfl, b2⟩
      have hO2 := hO.kept b2
      obtain ⟨T, hTe⟩ : ∃ t : List UInt8, t = tmT x := ⟨_, rfl⟩
      rw [← hTe] at HNx ⊢
      obtain ⟨TB, hTB⟩ : ∃ B : ByteArray, B = ⟨T.toArray⟩ := ⟨_, rfl⟩
      rw [← hTB]
      have hTl : TB.toList = T := by rw [hTB]; exact str_toList _
      have HTB : Hid (TB = ⟨T.toArray⟩) := hTB
      clear b2 hO HC2 hTe hTB
      by_cases hte : T = []
      · have hTn : TB.toList = [] := by rw [hTl, hte]
        have hO5 : OwnG w [Rw.st u3 (lnT ps (i + 1)), ⟨9, 1, .slice (some ⟨b, off, none⟩) n c, n, stC ps⟩] w2 := by
          rw [HNx.out, if_pos hte]
          exact hO2
        clear hTl hte hO2
        go_wp2
        go_roundw
        case rel => exact ⟨i + 1, by omega, by go_num, hO5⟩
        case measure => simp [intOf] <;> omega
      · have hTn : (TB.toList == []) = false := by rw [hTl]; simpa using hte
        have hTn2 : ¬ TB.toList = [] := by rw [hTl]; exact hte
        have hTn3 : (TB.toList != []) = true := by rw [bne, hTn]; rfl
        have HN2 : Hid (stC LL ++ [.string TB] = stC (lnT ps (i + 1))) := by show _ = _; rw [HNx.out, if_neg hte, HTB.out, stC_next]
        have HL2 : Hid (LL.length + 1 = (lnT ps (i + 1)).length) := by show _ = _; rw [HNx.out, if_neg hte]; simp
        clear hTl hte
        go_wp2_with (at_builtin; go_must (refine wpList_append_E rfl _ _ 54 rfl 9 ti _ 1 16 Tryz.underlying54 hti hz0 hz1 hz2 rfl (by decide) _ LL.length (stC LL) rfl (hO2.kept (growB _)) ⟨w2.heap.size, 0, none⟩ 1 1 [.string TB] rfl rfl (news1 _ rfl) (by intro u hu; simp at hu; subst hu; rfl) (by unfold maxLen; omega) (by omega) ?_))
        intro v6 w6 hO6 hC6
        rw [HN2.out, HL2.out] at hO6
        clear hO2 hC6
        go_wp2
        go_roundw
        case rel => exact ⟨i + 1, by omega, by go_num, hO6⟩
        case measure => simp [intOf] <;> omega
    · have hd : decide ((i : Int) < (n : Int)) = false := decide_eq_false (by omega)
      have hiI : (n : Int) ≤ (i : Int) := by omega
      have HF : Hid (OwnG w [Rw.st u3 (lnS s)] wr) := by
        rw [← HE.out, ← HN.out, show n = i by omega]
        exact hO.swap.tail
      clear hO
      go_wp2
      go_ret
      exact ⟨_, rfl, HF.out⟩

theorem tok_hit : ∀ k : Nat, 1 ≤ k → k ≤ 10 → tokN (wdL.getD k []) = k := by
  intro k h1 h2
  have : ∀ j : Fin 11, 1 ≤ j.val → tokN (wdL.getD j.val []) = j.val := by decide
  exact this ⟨k, by omega⟩ h1
theorem tok_miss (x : List UInt8) (h : ∀ k, 1 ≤ k → k ≤ 10 → wdL.getD k [] ≠ x) : tokN x = 0 := by
  have : ∀ m, m ≤ 11 → tkN x m = 0 := by
    intro m
    induction m with
    | zero => intro _; rfl
    | succ k ih =>
      intro hk
      unfold tkN
      rw [if_neg (fun e => h k e.1 (by omega) e.2)]
      exact ih (by omega)
  exact this 11 (by omega)

set_option maxHeartbeats 4000000 in
theorem tokenOf_any (x : List UInt8) (w : World) (hT : TkT w) :
    Calls Tryz.prog 110 #[.string ⟨x.toArray⟩] w fun e w' => e = .returned (.int .i64 ((tokN x : Nat) : Int)) ∧ w' = w := by
  have HT : Hid (TkT w) := hT
  obtain ⟨XB, hXB⟩ : ∃ B : ByteArray, B = ⟨x.toArray⟩ := ⟨_, rfl⟩
  have HXl : Hid (XB.toList = x) := by show _ = _; rw [hXB]; exact str_toList _
  rw [← hXB]
  clear hT hXB
  go_enter Tryz.func110, Tryz.ntmps110
  go_wp2
  go_loop [3] (fun iv => ∃ i : Nat, 1 ≤ i ∧ i ≤ 11 ∧ iv = .int .i64 (i : Int) ∧ Hid (∀ k, 1 ≤ k → k < i → wdL.getD k [] ≠ x)) (fun iv => 11 - (intOf iv).toNat)
  case atStart => exact ⟨1, by omega, by omega, rfl, (by show ∀ k, _; intro k h1 h2; omega)⟩
  case round =>
    obtain ⟨i, hi1, hi, rfl, HI⟩ := hrel
    by_cases hlt : i ≤ 10
    · have hd : decide ((i : Int) ≤ 10) = true := decide_eq_true (by omega)
      have hiI : (i : Int) ≤ 10 := by omega
      have hiJ : (i : Int) < 11 := by omega
      have hw := HT.out.words i (by omega)
      obtain ⟨WB, hWB⟩ : ∃ B : ByteArray, B = ⟨(wdL.getD i []).toArray⟩ := ⟨_, rfl⟩
      rw [← hWB] at hw
      have HWl : Hid (WB.toList = wdL.getD i []) := by show _ = _; rw [hWB]; exact str_toList _
      clear hWB
      by_cases he : wdL.getD i [] = x
      · have c1 : (WB.toList == XB.toList) = true := by rw [HWl.out, HXl.out, he]; simp
        have c2 : WB.toList = XB.toList := by rw [HWl.out, HXl.out, he]
        have HF : Hid (tokN x = i) := by show _ = _; rw [← he]; exact tok_hit i hi1 hlt
        clear he
        go_wp2
        go_ret
        exact ⟨by rw [HF.out]; rfl, rfl⟩
      · have c1 : (WB.toList == XB.toList) = false := by rw [HWl.out, HXl.out]; simpa using he
        have c2 : ¬ WB.toList = XB.toList := by rw [HWl.out, HXl.out]; exact he
        have HI2 : Hid (∀ k, 1 ≤ k → k < i + 1 → wdL.getD k [] ≠ x) := by
          show ∀ k, _
          intro k h1 h2
          rcases Nat.lt_or_ge k i with h | h
          · exact HI.out k h1 h
          · rw [show k = i by omega]; exact he
        clear he
        go_wp2
        go_round
        case rel => exact ⟨i + 1, by omega, by omega, by go_num, HI2⟩
        case measure => simp [intOf] <;> omega
    · have hd : decide ((i : Int) ≤ 10) = false := decide_eq_false (by omega)
      have hiI : (10 : Int) < (i : Int) := by omega
      have HF : Hid (tokN x = 0) := tok_miss x fun k h1 h2 => HI.out k h1 (by omega)
      go_wp2
      go_ret
      exact ⟨by rw [HF.out]; rfl, rfl⟩
end Go.Proofs.YtpoibhhijidobabGreatDoor

/- The tokens of a line, and a line's message: contracts of package pattern, sixteenth part. -/
namespace Go.Proofs.YtpoibhhijidobabGreatDoor
open Go.ChangeShapes Go.WideShapes Go.ChangeAt Go.RowKit
set_option linter.unusedSimpArgs false
set_option linter.unusedVariables false

/-- The tokens of what stands behind an arrow. -/
def tkX (x : List UInt8) : List Nat := (splL 44 x).map fun p => tokN (tmT p)
theorem infoTok : (Tryz.prog.info? 64).map (fun i => (i.zero, i.size, i.bytes)) = some (some (.int .i64 0), 1, 8) := by kernel_rfl
/-- A row of tokens. -/
abbrev Rw.tk (v : Value) (l : List Nat) : Rw := ⟨64, 1, v, l.length, (nIs l).map (Value.int .i64)⟩
theorem tk_next (l : List Nat) (k : Nat) : (nIs l).map (Value.int .i64) ++ [Value.int .i64 ((k : Nat) : Int)] = (nIs (l ++ [k])).map (Value.int .i64) := by simp [nIs]
theorem take_tokN (l : List Nat) (i : Nat) (h : i < l.length) : l.take (i + 1) = l.take i ++ [l.getD i 0] := by
  rw [List.take_add_one, List.getElem?_eq_getElem h]
  simp [h]

set_option maxRecDepth 100000 in
set_option maxHeartbeats 8000000 in
theorem readTokens_any (x : List UInt8) (hx : x.length ≤ 4096) (w : World) (hT : TkT w) :
    Calls Tryz.prog 102 #[.string ⟨x.toArray⟩] w fun e w' => (((tkX x).all fun n => n != 0) = true ∧ ∃ v, e = .returned (.tuple #[v, .bool true]) ∧ OwnG w [Rw.tk v (tkX x)] w') ∨ (((tkX x).all fun n => n != 0) = false ∧ e = .returned (.tuple #[.slice none 0 0, .bool false]) ∧ Below w.heap.size w w') := by
  obtain ⟨ti, hti, hz0, hz1, hz2⟩ := info_parts infoTok
  have HC : Hid (Calls Tryz.prog 53 #[.string ⟨x.toArray⟩, .string ⟨#[44]⟩] w fun e w' => ∃ v, e = .returned v ∧ OwnG w [Rw.st v (splL 44 x)] w') := split_any 44 x (by omega) w hT
  have HP : Hid (∀ p ∈ splL 44 x, p.length ≤ 4096) := fun p hp => Nat.le_trans (splL_len 44 x p hp) hx
  have HT : Hid (TkT w) := hT
  have hcnt := splL_count 44 x
  obtain ⟨NS, hNS⟩ : ∃ NS : List Nat, NS = tkX x := ⟨_, rfl⟩
  have HNS : Hid (NS = (splL 44 x).map fun p => tokN (tmT p)) := hNS
  rw [← hNS]
  obtain ⟨ps, hps⟩ : ∃ l : List (List UInt8), l = splL 44 x := ⟨_, rfl⟩
  rw [← hps] at HC HP HNS hcnt
  generalize (⟨x.toArray⟩ : ByteArray) = SB at HC ⊢
  have hpl : ps.length ≤ 4097 := by omega
  clear hps hcnt hT hNS
  go_enter Tryz.func102, Tryz.ntmps102
  go_wp2_with fail
  refine HC.out.mono ?_
  rintro e w1 ⟨v, rfl, hO⟩
  obtain ⟨a, c, rfl, h1, h2, -⟩ := st_len (hO.rdC rfl)
  obtain ⟨n, hn⟩ : ∃ n : Nat, n = ps.length := ⟨_, rfl⟩
  have HN : Hid (n = ps.length) := hn
  have HNl : Hid (n = NS.length) := by show _ = _; rw [HNS.out, List.length_map]; exact hn
  have hO0 : OwnG w [Rw.tk (.slice none 0 0) (NS.take 0), ⟨9, 1, .slice a n c, n, stC ps⟩] w1 := by
    have : OwnG w [⟨9, 1, .slice a n c, n, stC ps⟩] w1 := by rw [hn]; exact hO
    exact this.nil 64 1
  rw [← hn] at h1 hpl ⊢
  unfold maxLen at h2
  clear hO HC hn
  go_wp2
  go_loopw [4, 11] (fun ov iv wx => ∃ i : Nat, i ≤ n ∧ iv = .int .i64 (i : Int) ∧ Hid ((NS.take i).all (fun n => n != 0) = true) ∧ OwnG w [Rw.tk ov (NS.take i), ⟨9, 1, .slice a n c, n, stC ps⟩] wx) (fun _ iv _ => n - (intOf iv).toNat)
  case atStart => exact ⟨0, by omega, rfl, (by show _ = _; rfl), hO0⟩
  case round =>
    obtain ⟨i, hi, rfl, HA, hO⟩ := hrel
    clear hO0
    by_cases hlt : i < n
    · have hd : decide ((i : Int) < (n : Int)) = true := decide_eq_true (by omega)
      have hiI : (i : Int) < (n : Int) := by omega
      have HIn : Hid (i < ps.length) := by show _ < _; rw [← HN.out]; exact hlt
      obtain ⟨b, off, rfl, g1⟩ := st_at (hO.tail.rdC rfl) HIn.out
      obtain ⟨y, hy⟩ : ∃ y : List UInt8, y = ps.getD i [] := ⟨_, rfl⟩
      rw [← hy] at g1
      have HYl : Hid (y.length ≤ 1000000) := by
        have h3 := HP.out y (by rw [hy]; have := HIn.out; simp [this])
        show _ ≤ _
        omega
      have HNi : Hid (NS.getD i 0 = tokN (tmT y)) := by
        show _ = _
        rw [HNS.out, hy]
        have := HIn.out
        simp [this]
      have HC2 : Hid (∀ W : World, Calls Tryz.prog 54 #[.string ⟨y.toArray⟩, .string ⟨#[32]⟩] W fun e w' => e = .returned (.string ⟨(tmT y).toArray⟩) ∧ Below W.heap.size W w') := fun W => trim_any y HYl.out W
      generalize (⟨y.toArray⟩ : ByteArray) = YB at g1 HC2
      clear hy
      go_wp2_with fail
      refine (HC2.out _).mono ?_
      rintro e w2 ⟨rfl, b2⟩
      have hO2 := hO.kept b2
      go_wp2_with fail
      refine (tokenOf_any (tmT y) _ (HT.out.kept hO2.below)).mono ?_
      rintro e w2 ⟨rfl, rfl⟩
      rw [← HNi.out]
      obtain ⟨k, hk⟩ : ∃ k : Nat, k = NS.getD i 0 := ⟨_, rfl⟩
      rw [← hk]
      have HK : Hid (k = NS.getD i 0) := hk
      clear b2 hO HC2 hk
      by_cases hk0 : k = 0
      · have c1 : ((k : Int) == 0) = true := by rw [hk0]; rfl
        have c2 : (k : Int) = 0 := by omega
        have HF : Hid ((NS.all fun n => n != 0) = false) := by
          show _ = _
          rw [List.all_eq_false]
          refine ⟨NS.getD i 0, ?_, by rw [← HK.out, hk0]; simp⟩
          have : i < NS.length := by rw [← HNl.out]; exact hlt
          simp [this]
        have HB : Hid (Below w.heap.size w w2) := hO2.below
        clear hk0 hO2
        go_wp2
        go_ret2
        exact .inr ⟨HF.out, rfl, HB.out⟩
      · have c1 : ((k : Int) == 0) = false := by
          have : ¬ (k : Int) = 0 := by omega
          simpa using this
        have c2 : ¬ (k : Int) = 0 := by omega
        obtain ⟨LL, hLL⟩ : ∃ L : List Nat, L = NS.take i := ⟨_, rfl⟩
        rw [← hLL] at hO2
        have hLn : LL.length ≤ 4097 := by rw [hLL, List.length_take]; omega
        have HL : Hid (LL ++ [k] = NS.take (i + 1)) := by show _ = _; rw [take_tokN NS i (by rw [← HNl.out]; exact hlt), hLL, HK.out]
        have HA2 : Hid ((NS.take (i + 1)).all (fun n => n != 0) = true) := by
          show _ = _
          rw [← HL.out, List.all_append, hLL, HA.out]
          simp [hk0]
        clear hk0 hLL
        go_wp2_with (at_builtin; go_must (refine wpList_append_E rfl _ _ 46 rfl 64 ti _ 1 8 Tryz.underlying46 hti hz0 hz1 hz2 rfl (by decide) _ LL.length ((nIs LL).map (Value.int .i64)) rfl (hO2.kept (growB _)) ⟨w2.heap.size, 0, none⟩ 1 1 [.int .i64 (k : Int)] rfl rfl (news1 _ rfl) (by intro u hu; simp at hu; subst hu; rfl) (by unfold maxLen; omega) (by omega) ?_))
        intro v6 w6 hO6 hC6
        have hO7 : OwnG w [Rw.tk v6 (NS.take (i + 1)), ⟨9, 1, .slice (some ⟨b, off, none⟩) n c, n, stC ps⟩] w6 := by
          rw [tk_next] at hO6
          rw [← HL.out]
          have e : LL.length + 1 = (LL ++ [k]).length := by simp
          rw [e] at hO6
          exact hO6
        clear hO2 hC6 hO6
        go_wp2
        go_roundw
        case rel => exact ⟨i + 1, by omega, by go_num, HA2, hO7⟩
        case measure => simp [intOf] <;> omega
    · have hd : decide ((i : Int) < (n : Int)) = false := decide_eq_false (by omega)
      have hiI : (n : Int) ≤ (i : Int) := by omega
      have hie : NS.take i = NS := List.take_of_length_le (by have := HNl.out; omega)
      have HF : Hid (OwnG w [Rw.tk u4 NS] wr) := by
        rw [hie] at hO
        exact hO.swap.tail
      have HA2 : Hid ((NS.all fun n => n != 0) = true) := by
        have := HA.out
        rw [hie] at this
        exact this
      clear hO hie
      go_wp2
      go_ret2
      exact .inl ⟨HA2.out, _, rfl, HF.out⟩
end Go.Proofs.YtpoibhhijidobabGreatDoor

/- A line's message: contracts of package pattern, seventeenth part. -/
namespace Go.Proofs.YtpoibhhijidobabGreatDoor
open Go.ChangeShapes Go.WideShapes Go.ChangeAt Go.RowKit
set_option linter.unusedSimpArgs false
set_option linter.unusedVariables false

theorem infoAr : (Tryz.prog.info? 93).map (·.size) = some 2 := by kernel_rfl
theorem idx_ar0 (a b : ByteArray) (w : World) : (Instr.index 93 (.agg #[.string a, .string b]) (.int .i64 0)).run Tryz.prog w = .ok (.string a) w := by kernel_rfl
theorem idx_ar1 (a b : ByteArray) (w : World) : (Instr.index 93 (.agg #[.string a, .string b]) (.int .i64 1)).run Tryz.prog w = .ok (.string b) w := by kernel_rfl
theorem build_ms (q : Bool) (a : Option Addr) (n c : Nat) (w : World) : (Instr.build 48 #[(0, .bool q), (1, .slice a n c)]).run Tryz.prog w = .ok (.agg #[.bool q, .slice a n c]) w := by kernel_rfl
theorem build_m0 (w : World) : (Instr.build 48 #[]).run Tryz.prog w = .ok (.agg #[.bool false, .slice none 0 0]) w := by kernel_rfl
def ar0 : List UInt8 := [45, 62]
def ar1 : List UInt8 := [60, 45]
theorem pre_take (a x : List UInt8) : a.isPrefixOf x = true ↔ x.take a.length = a := by
  rw [List.isPrefixOf_iff_prefix, List.prefix_iff_eq_take]
  exact ⟨fun h => h.symm, fun h => h.symm⟩
theorem pre_len {a x : List UInt8} (h : a.isPrefixOf x = true) : a.length ≤ x.length := by
  rw [List.isPrefixOf_iff_prefix] at h
  exact h.length_le
theorem msg_in {x : List UInt8} (h : ar0.isPrefixOf x = true) : msgH x = true ∧ decide (x.getD 0 0 = 45) = true := by
  have h1 := (pre_take _ _).1 h
  have h2 := pre_len h
  have h1' : x.take 2 = [45, 62] := h1
  have h2' : 2 ≤ x.length := h2
  refine ⟨?_, ?_⟩
  · unfold msgH
    rw [decide_eq_true h2', h1']
    rfl
  · match x, h1' with
    | y :: z :: l, h1' =>
      simp at h1'
      rw [h1'.1]
      rfl
theorem msg_re {x : List UInt8} (h : ar1.isPrefixOf x = true) : msgH x = true ∧ decide (x.getD 0 0 = 45) = false := by
  have h1 := (pre_take _ _).1 h
  have h2 := pre_len h
  have h1' : x.take 2 = [60, 45] := h1
  have h2' : 2 ≤ x.length := h2
  refine ⟨?_, ?_⟩
  · unfold msgH
    rw [decide_eq_true h2', h1']
    rfl
  · match x, h1' with
    | y :: z :: l, h1' =>
      simp at h1'
      rw [h1'.1]
      rfl
theorem msg_no {x : List UInt8} (h0 : ar0.isPrefixOf x = false) (h1 : ar1.isPrefixOf x = false) : msgB x = false := by
  have e0 : ¬ x.take 2 = [45, 62] := fun e => by
    have := (pre_take ar0 x).2 e
    rw [h0] at this
    cases this
  have e1 : ¬ x.take 2 = [60, 45] := fun e => by
    have := (pre_take ar1 x).2 e
    rw [h1] at this
    cases this
  unfold msgB msgH
  rw [decide_eq_false e0, decide_eq_false e1]
  simp
/-- What a line's message is answered as. -/
def MsgP (x : List UInt8) (w : World) (e : Ending) (w' : World) : Prop :=
  (msgB x = true ∧ ∃ v, e = .returned (.tuple #[.agg #[.bool (decide (x.getD 0 0 = 45)), v], .bool true]) ∧ OwnG w [Rw.tk v (msgL x)] w') ∨ (msgB x = false ∧ ∃ q, e = .returned (.tuple #[.agg #[.bool q, .slice none 0 0], .bool false]) ∧ Below w.heap.size w w')
theorem tk_len {w0 w : World} {v : Value} {l : List Nat} {L : List Rw} (h : OwnG w0 (Rw.tk v l :: L) w) : ∃ a c, v = .slice a l.length c := by
  obtain ⟨a, c, e, -⟩ := h.rdC rfl
  have e' : v = .slice a ((nIs l).map (Value.int .i64)).length c := e
  refine ⟨a, c, ?_⟩
  rw [e']
  simp [nIs]

set_option maxRecDepth 100000 in
set_option maxHeartbeats 8000000 in
theorem readMessage_any (x : List UInt8) (hx : x.length ≤ 4096) (w : World) (hT : TkT w) :
    Calls Tryz.prog 91 #[.string ⟨x.toArray⟩] w fun e w' => MsgP x w e w' := by
  have HT : Hid (TkT w) := hT
  have HX : Hid (x.length ≤ 4096) := hx
  have HC0 : Hid (∀ W : World, Calls Tryz.prog 101 #[.string ⟨x.toArray⟩, .string ⟨#[45, 62]⟩] W fun e w' => e = .returned (.tuple #[.string ⟨(if ar0.isPrefixOf x then x.drop 2 else x).toArray⟩, .bool (ar0.isPrefixOf x)]) ∧ w' = W) := fun W => cutP_any x ar0 W
  have HC1 : Hid (∀ W : World, Calls Tryz.prog 101 #[.string ⟨x.toArray⟩, .string ⟨#[60, 45]⟩] W fun e w' => e = .returned (.tuple #[.string ⟨(if ar1.isPrefixOf x then x.drop 2 else x).toArray⟩, .bool (ar1.isPrefixOf x)]) ∧ w' = W) := fun W => cutP_any x ar1 W
  generalize (⟨x.toArray⟩ : ByteArray) = XB at HC0 HC1 ⊢
  clear hT hx
  go_enter Tryz.func91, Tryz.ntmps91
  go_wp2_with (refine wpList_alloc_blk rfl 48 rfl [.bool false, .slice none 0 0] (allocMsg _) ?_)
  intro w1 r1 b1 s1
  have HT1 : Hid (TkT w1) := HT.out.kept b1
  have HB1 : Hid (Below w.heap.size w w1) := b1
  have HR1 : Hid (BlkAt w.heap.size 48 [.bool false, .slice none 0 0] w1) := r1
  have hrg := range_two HT1.out.ar0 (show w1.cell? ⟨1, 0 + 1, none⟩ = _ from HT1.out.ar1)
  have hlt1 : w.heap.size < w1.heap.size := r1.lt
  clear b1 r1 s1 HT
  go_wp2_with (refine wpList_load_mid rfl 93 _ rfl 1 0 rfl [.string ⟨#[45, 62]⟩, .string ⟨#[60, 45]⟩] _ hrg Tryz.underlying93 rfl infoAr ?_)
  clear hrg
  have ix0 := fun w => idx_ar0 ⟨#[45, 62]⟩ ⟨#[60, 45]⟩ w
  have ix1 := fun w => idx_ar1 ⟨#[45, 62]⟩ ⟨#[60, 45]⟩ w
  go_loop [11] (fun iv => ∃ i : Nat, i ≤ 2 ∧ iv = .int .i64 (i : Int) ∧ Hid ((1 ≤ i → ar0.isPrefixOf x = false) ∧ (2 ≤ i → ar1.isPrefixOf x = false))) (fun iv => 2 - (intOf iv).toNat)
  case atStart => exact ⟨0, by omega, rfl, (by show _ ∧ _; exact ⟨fun h => by omega, fun h => by omega⟩)⟩
  case round =>
    obtain ⟨i, hi, rfl, HI⟩ := hrel
    have hi3 : i = 0 ∨ i = 1 ∨ i = 2 := by omega
    rcases hi3 with rfl | rfl | rfl
    · obtain ⟨z, hz⟩ : ∃ z : Bool, z = ar0.isPrefixOf x := ⟨_, rfl⟩
      have HZ : Hid (z = ar0.isPrefixOf x) := hz
      go_wp2_with fail
      refine (HC0.out _).mono ?_
      rintro e w1 ⟨rfl, rfl⟩
      rw [← hz]
      clear hz
      cases z with
      | false =>
        have HI2 : Hid ((1 ≤ 1 → ar0.isPrefixOf x = false) ∧ (2 ≤ 1 → ar1.isPrefixOf x = false)) := ⟨fun _ => HZ.out.symm, fun h => by omega⟩
        rw [if_neg (by simp)]
        go_wp2
        go_round
        case rel => exact ⟨1, by omega, by go_num, HI2⟩
        case measure => simp [intOf]
      | true =>
        rw [if_pos rfl]
        have HM : Hid (msgB x = ((tkX (x.drop 2)).all fun n => n != 0)) := by
          show _ = _
          unfold msgB
          rw [(msg_in HZ.out.symm).1]
          rfl
        have HD : Hid (decide (x.getD 0 0 = 45) = true) := (msg_in HZ.out.symm).2
        go_wp2_with fail
        refine (readTokens_any (x.drop 2) (by rw [List.length_drop]; have := HX.out; omega) _ HT1.out).mono ?_
        rintro e w2 (⟨hall, v, rfl, hO⟩ | ⟨hall, rfl, b2⟩)
        · obtain ⟨a, c, rfl⟩ := tk_len hO
          have HO : Hid (OwnG w1 [Rw.tk (.slice a (tkX (x.drop 2)).length c) (tkX (x.drop 2))] w2) := hO
          have HMt : Hid (msgB x = true) := by show _ = _; rw [HM.out, hall]
          have HR2 : Hid (BlkAt w.heap.size 48 [.bool false, .slice none 0 0] w2) := HR1.out.kept hO.below
          have HLm : Hid (tkX (x.drop 2) = msgL x) := rfl
          obtain ⟨TX, hTX⟩ : ∃ l : List Nat, l = tkX (x.drop 2) := ⟨_, rfl⟩
          rw [← hTX] at HO HLm ⊢
          have bm := fun w => build_ms true a TX.length c w
          clear hO hall hTX
          go_wp2_with fail
          refine (sideOf_any true _).mono ?_
          rintro e w2 ⟨rfl, rfl⟩
          go_wp2_with (refine wpList_store_part rfl 48 _ _ rfl rfl [.bool true, .slice a TX.length c] rfl [] [.bool false, .slice none 0 0] [] [.bool true, .slice a TX.length c] HR2.out rfl rfl rfl rfl infoMsg (oneCell2 _ _ _ _) ?_)
          intro w3 r3 hw3
          have HO3 : Hid (OwnG w [Rw.tk (.slice a TX.length c) TX] w3) := by
            refine (HO.out.from HB1.out).wrote hw3 (Nat.le_refl _) fun r hr b hb => ?_
            rcases List.mem_cons.1 hr with rfl | hr
            · have := ((HO.out.rows _ (List.mem_cons_self ..)).lt b hb).1
              omega
            · cases hr
          go_wp2
          refine bodyPost_blk2 rfl rfl rfl rfl r3 Tryz.underlying48 rfl infoMsg ?_
          exact .inl ⟨HMt.out, _, by rw [HD.out]; rfl, by rw [← HLm.out]; exact HO3.out⟩
        · have HMf : Hid (msgB x = false) := by show _ = _; rw [HM.out, hall]
          have HR2 : Hid (BlkAt w.heap.size 48 [.bool false, .slice none 0 0] w2) := HR1.out.kept b2
          have HB2 : Hid (Below w.heap.size w w2) := stepB HB1.out b2
          have bm := fun w => build_ms true none 0 0 w
          clear b2 hall
          go_wp2_with fail
          refine (sideOf_any true _).mono ?_
          rintro e w2 ⟨rfl, rfl⟩
          go_wp2_with (refine wpList_store_part rfl 48 _ _ rfl rfl [.bool true, .slice none 0 0] rfl [] [.bool false, .slice none 0 0] [] [.bool true, .slice none 0 0] HR2.out rfl rfl rfl rfl infoMsg (oneCell2 _ _ _ _) ?_)
          intro w3 r3 hw3
          have HB3 : Hid (Below w.heap.size w w3) := hw3.below _ _ (Nat.le_refl _) HB2.out
          go_wp2
          refine bodyPost_blk2 rfl rfl rfl rfl r3 Tryz.underlying48 rfl infoMsg ?_
          exact .inr ⟨HMf.out, _, rfl, HB3.out⟩
    · obtain ⟨z, hz⟩ : ∃ z : Bool, z = ar1.isPrefixOf x := ⟨_, rfl⟩
      have HZ : Hid (z = ar1.isPrefixOf x) := hz
      go_wp2_with fail
      refine (HC1.out _).mono ?_
      rintro e w1 ⟨rfl, rfl⟩
      rw [← hz]
      clear hz
      cases z with
      | false =>
        have HI2 : Hid ((1 ≤ 2 → ar0.isPrefixOf x = false) ∧ (2 ≤ 2 → ar1.isPrefixOf x = false)) := ⟨fun _ => HI.out.1 (by omega), fun _ => HZ.out.symm⟩
        rw [if_neg (by simp)]
        go_wp2
        go_round
        case rel => exact ⟨2, by omega, by go_num, HI2⟩
        case measure => simp [intOf]
      | true =>
        rw [if_pos rfl]
        have HM : Hid (msgB x = ((tkX (x.drop 2)).all fun n => n != 0)) := by
          show _ = _
          unfold msgB
          rw [(msg_re HZ.out.symm).1]
          rfl
        have HD : Hid (decide (x.getD 0 0 = 45) = false) := (msg_re HZ.out.symm).2
        go_wp2_with fail
        refine (readTokens_any (x.drop 2) (by rw [List.length_drop]; have := HX.out; omega) _ HT1.out).mono ?_
        rintro e w2 (⟨hall, v, rfl, hO⟩ | ⟨hall, rfl, b2⟩)
        · obtain ⟨a, c, rfl⟩ := tk_len hO
          have HO : Hid (OwnG w1 [Rw.tk (.slice a (tkX (x.drop 2)).length c) (tkX (x.drop 2))] w2) := hO
          have HMt : Hid (msgB x = true) := by show _ = _; rw [HM.out, hall]
          have HR2 : Hid (BlkAt w.heap.size 48 [.bool false, .slice none 0 0] w2) := HR1.out.kept hO.below
          have HLm : Hid (tkX (x.drop 2) = msgL x) := rfl
          obtain ⟨TX, hTX⟩ : ∃ l : List Nat, l = tkX (x.drop 2) := ⟨_, rfl⟩
          rw [← hTX] at HO HLm ⊢
          have bm := fun w => build_ms false a TX.length c w
          clear hO hall hTX
          go_wp2_with fail
          refine (sideOf_any true _).mono ?_
          rintro e w2 ⟨rfl, rfl⟩
          go_wp2_with (refine wpList_store_part rfl 48 _ _ rfl rfl [.bool false, .slice a TX.length c] rfl [] [.bool false, .slice none 0 0] [] [.bool false, .slice a TX.length c] HR2.out rfl rfl rfl rfl infoMsg (oneCell2 _ _ _ _) ?_)
          intro w3 r3 hw3
          have HO3 : Hid (OwnG w [Rw.tk (.slice a TX.length c) TX] w3) := by
            refine (HO.out.from HB1.out).wrote hw3 (Nat.le_refl _) fun r hr b hb => ?_
            rcases List.mem_cons.1 hr with rfl | hr
            · have := ((HO.out.rows _ (List.mem_cons_self ..)).lt b hb).1
              omega
            · cases hr
          go_wp2
          refine bodyPost_blk2 rfl rfl rfl rfl r3 Tryz.underlying48 rfl infoMsg ?_
          exact .inl ⟨HMt.out, _, by rw [HD.out]; rfl, by rw [← HLm.out]; exact HO3.out⟩
        · have HMf : Hid (msgB x = false) := by show _ = _; rw [HM.out, hall]
          have HR2 : Hid (BlkAt w.heap.size 48 [.bool false, .slice none 0 0] w2) := HR1.out.kept b2
          have HB2 : Hid (Below w.heap.size w w2) := stepB HB1.out b2
          have bm := fun w => build_ms false none 0 0 w
          clear b2 hall
          go_wp2_with fail
          refine (sideOf_any true _).mono ?_
          rintro e w2 ⟨rfl, rfl⟩
          go_wp2_with (refine wpList_store_part rfl 48 _ _ rfl rfl [.bool false, .slice none 0 0] rfl [] [.bool false, .slice none 0 0] [] [.bool false, .slice none 0 0] HR2.out rfl rfl rfl rfl infoMsg (oneCell2 _ _ _ _) ?_)
          intro w3 r3 hw3
          have HB3 : Hid (Below w.heap.size w w3) := hw3.below _ _ (Nat.le_refl _) HB2.out
          go_wp2
          refine bodyPost_blk2 rfl rfl rfl rfl r3 Tryz.underlying48 rfl infoMsg ?_
          exact .inr ⟨HMf.out, _, rfl, HB3.out⟩
    · have HM : Hid (msgB x = false) := msg_no (HI.out.1 (by omega)) (HI.out.2 (by omega))
      have bm := fun w => build_m0 w
      go_wp2_with (refine wpList_store_part rfl 48 _ _ rfl rfl [.bool false, .slice none 0 0] rfl [] [.bool false, .slice none 0 0] [] [.bool false, .slice none 0 0] HR1.out rfl rfl rfl rfl infoMsg (oneCell2 _ _ _ _) ?_)
      intro w3 r3 hw3
      have HB3 : Hid (Below w.heap.size w w3) := hw3.below _ _ (Nat.le_refl _) HB1.out
      go_wp2
      refine bodyPost_blk2 rfl rfl rfl rfl r3 Tryz.underlying48 rfl infoMsg ?_
      exact .inr ⟨HM.out, false, rfl, HB3.out⟩
end Go.Proofs.YtpoibhhijidobabGreatDoor

/- The messages of lines: contracts of package pattern, eighteenth part. -/
namespace Go.Proofs.YtpoibhhijidobabGreatDoor
open Go.ChangeShapes Go.WideShapes Go.ChangeAt Go.RowKit
set_option linter.unusedSimpArgs false
set_option linter.unusedVariables false

theorem infoMs : (Tryz.prog.info? 48).map (fun i => (i.zero, i.size, i.bytes)) = some (some (.agg #[.bool false, .slice none 0 0]), 2, 32) := by kernel_rfl
/-- The messages of lines. -/
def mgL (ls : List (List UInt8)) : List (Bool × List Int) := ls.map fun x => (decide (x.getD 0 0 = 45), nIs (msgL x))
/-- Messages as cells, with the slices of their tokens. -/
def msX (ms : List (Bool × List Int)) (vs : List Value) : List Value := (ms.zip vs).flatMap fun e => [Value.bool e.1.1, e.2]
theorem msX_len : ∀ (ms : List (Bool × List Int)) (vs : List Value), ms.length = vs.length → (msX ms vs).length = ms.length * 2
  | [], [], _ => rfl
  | m :: ms, v :: vs, h => by
    have := msX_len ms vs (by simpa using h)
    simp [msX] at this ⊢
    omega
theorem msX_next : ∀ (ms : List (Bool × List Int)) (vs : List Value) (m : Bool × List Int) (v : Value), ms.length = vs.length → msX ms vs ++ [.bool m.1, v] = msX (ms ++ [m]) (vs ++ [v])
  | [], [], m, v, _ => by simp [msX]
  | x :: ms, y :: vs, m, v, h => by
    have := msX_next ms vs m v (by simpa using h)
    simp [msX] at this ⊢
    exact this
theorem msX_at : ∀ (ms : List (Bool × List Int)) (vs : List Value), ms.length = vs.length → ∀ k (hk : k < ms.length) (hv : k < vs.length), (msX ms vs)[2 * k]? = some (.bool ms[k].1) ∧ (msX ms vs)[2 * k + 1]? = some vs[k]
  | [], [], _, k, hk, _ => by cases hk
  | x :: ms, y :: vs, h, k, hk, hv => by
    cases k with
    | zero => exact ⟨rfl, rfl⟩
    | succ k =>
      have := msX_at ms vs (by simpa using h) k (by simpa using hk) (by simpa using hv)
      have e : 2 * (k + 1) = 2 * k + 2 := by omega
      rw [e]
      exact this
/-- The tokens' rows that were made. -/
structure MkR (rest : List Rw) (vs : List Value) (ms : List (Bool × List Int)) : Prop where
  len : ms.length = vs.length
  toks : ∀ k (h : k < vs.length), (⟨64, 1, vs[k], (ms.getD k (false, [])).2.length, (ms.getD k (false, [])).2.map (Value.int .i64)⟩ : Rw) ∈ rest
theorem MkR.next {rest : List Rw} {vs : List Value} {ms : List (Bool × List Int)} (h : MkR rest vs ms) (m : Bool × List Int) (v : Value) : MkR (⟨64, 1, v, m.2.length, m.2.map (Value.int .i64)⟩ :: rest) (vs ++ [v]) (ms ++ [m]) := by
  refine ⟨by simp [h.len], fun k hk => ?_⟩
  by_cases hk2 : k < vs.length
  · have e1 : (vs ++ [v])[k] = vs[k] := List.getElem_append_left hk2
    have e2 : (ms ++ [m]).getD k (false, []) = ms.getD k (false, []) := by
      have : k < ms.length := by rw [h.len]; exact hk2
      simp [List.getD, List.getElem?_append_left this]
    rw [e1, e2]
    exact List.mem_cons_of_mem _ (h.toks k hk2)
  · have hke : k = vs.length := by simp at hk; omega
    subst hke
    have e1 : (vs ++ [v])[vs.length] = v := by simp
    have e2 : (ms ++ [m]).getD vs.length (false, []) = m := by rw [← h.len]; simp [List.getD]
    rw [e1, e2]
    exact List.mem_cons_self ..
theorem MsR.of_rows {w : World} {base : Nat} {v : Value} {rest : List Rw} {vs : List Value} {p : Ptn} (h : ∀ q ∈ ((⟨48, 2, v, p.n, msX p.ms vs⟩ : Rw) :: rest), w.ownsRow base q.ty q.sz q.v q.n q.xs) (hm : MkR rest vs p.ms) : MsR w v p := by
  have hE := RdE.of_own (h _ (List.mem_cons_self ..))
  obtain ⟨-, a, cap, ev, h1, h2, -⟩ := id hE
  replace ev : v = .slice a p.n cap := ev
  subst ev
  refine ⟨a, cap, rfl, h1, h2, ?_⟩
  by_cases h0 : p.n = 0
  · exact .inl h0
  · right
    have hl : (msX p.ms vs).length = p.n * 2 := msX_len p.ms vs hm.len
    have hnv : p.n = vs.length := hm.len
    obtain ⟨b, off, e, -⟩ := hE.cellAt (i := 0) (by show 0 < (msX p.ms vs).length; omega)
    refine ⟨b, off, e, fun k hk => ?_⟩
    have hk1 : k < p.ms.length := hk
    have hk2 : k < vs.length := by omega
    obtain ⟨m1, m2⟩ := msX_at p.ms vs hm.len k hk1 hk2
    obtain ⟨b1, o1, e1, c1⟩ := hE.cellAt (i := 2 * k) (by show 2 * k < (msX p.ms vs).length; omega)
    obtain ⟨b2, o2, e2, c2⟩ := hE.cellAt (i := 2 * k + 1) (by show 2 * k + 1 < (msX p.ms vs).length; omega)
    rw [e] at e1 e2
    simp only [Option.some.injEq, Addr.mk.injEq, and_true] at e1 e2
    obtain ⟨rfl, rfl⟩ := e1
    obtain ⟨rfl, rfl⟩ := e2
    refine ⟨vs[k], ?_, ?_, ?_⟩
    · rw [c1]
      have : (msX p.ms vs)[2 * k]? = some (msX p.ms vs)[2 * k] := by simp
      rw [← this, m1]
      simp [Ptn.ini, hk1]
    · rw [c2]
      have : (msX p.ms vs)[2 * k + 1]? = some (msX p.ms vs)[2 * k + 1] := by simp
      rw [← this, m2]
    · have := RdI.of_row (h _ (List.mem_cons_of_mem _ (hm.toks k hk2)))
      unfold Ptn.tk
      exact this
theorem mgL_len (ls : List (List UInt8)) : (mgL ls).length = ls.length := by simp [mgL]
theorem mgL_next (ls : List (List UInt8)) (i : Nat) (h : i < ls.length) : mgL (ls.take (i + 1)) = mgL (ls.take i) ++ [(decide ((ls.getD i []).getD 0 0 = 45), nIs (msgL (ls.getD i [])))] := by
  unfold mgL
  rw [List.take_add_one, List.getElem?_eq_getElem h, List.map_append]
  simp [h]

set_option maxRecDepth 100000 in
set_option maxHeartbeats 8000000 in
theorem readMessages_any (ls : List (List UInt8)) (v : Value) (hls : ls.length ≤ 4097) (hx : ∀ x ∈ ls, x.length ≤ 4096) (w : World) (h : RdC w v (stC ls)) (hT : TkT w) :
    Calls Tryz.prog 73 #[v] w fun e w' => (ls.all msgB = true ∧ ∃ v, e = .returned (.tuple #[v, .bool true]) ∧ (∀ W, Chg (fun b => b < w.heap.size) w' W → MsR W v ⟨[], false, false, mgL ls⟩) ∧ Below w.heap.size w w') ∨ (ls.all msgB = false ∧ e = .returned (.tuple #[.slice none 0 0, .bool false]) ∧ Below w.heap.size w w') := by
  obtain ⟨ti, hti, hz0, hz1, hz2⟩ := info_parts infoMs
  obtain ⟨a, c, rfl, h1, h2, -⟩ := st_len h
  obtain ⟨n, hn⟩ : ∃ n : Nat, n = ls.length := ⟨_, rfl⟩
  have HN : Hid (n = ls.length) := hn
  rw [← hn] at h1 h hls
  rw [← hn]
  have HL : Hid (RdC w (.slice a n c) (stC ls)) := h
  have HX : Hid (∀ x ∈ ls, x.length ≤ 4096) := hx
  have HT : Hid (TkT w) := hT
  unfold maxLen at h2
  have hO0 : OwnG w (⟨48, 2, .slice none 0 0, 0, msX (mgL (ls.take 0)) []⟩ :: []) w := (OwnG.start w).nil 48 2
  clear hn h hx hT
  go_enter Tryz.func73, Tryz.ntmps73
  go_wp2
  go_loopw [4, 11] (fun ov iv wx => ∃ (i : Nat) (vs : List Value) (rest : List Rw), i ≤ n ∧ iv = .int .i64 (i : Int) ∧ Hid ((ls.take i).all msgB = true ∧ MkR rest vs (mgL (ls.take i))) ∧ OwnG w (⟨48, 2, ov, i, msX (mgL (ls.take i)) vs⟩ :: rest) wx) (fun _ iv _ => n - (intOf iv).toNat)
  case atStart => exact ⟨0, [], [], by omega, rfl, (by show _ ∧ _; exact ⟨rfl, ⟨rfl, fun k hk => by cases hk⟩⟩), hO0⟩
  case round =>
    obtain ⟨i, vs, rest, hi, rfl, HG, hO⟩ := hrel
    clear hO0
    by_cases hlt : i < n
    · have hd : decide ((i : Int) < (n : Int)) = true := decide_eq_true (by omega)
      have hiI : (i : Int) < (n : Int) := by omega
      have HIn : Hid (i < ls.length) := by show _ < _; rw [← HN.out]; exact hlt
      obtain ⟨b, off, rfl, g1⟩ := st_at HL.out HIn.out
      replace g1 := cellKP g1 hO.below
      obtain ⟨x, hx⟩ : ∃ x : List UInt8, x = ls.getD i [] := ⟨_, rfl⟩
      rw [← hx] at g1
      have HXe : Hid (x = ls.getD i []) := hx
      have HC : Hid (∀ W : World, TkT W → Calls Tryz.prog 91 #[.string ⟨x.toArray⟩] W fun e w' => MsgP x W e w') := fun W hW => readMessage_any x (HX.out x (by rw [hx]; have := HIn.out; simp [this])) W hW
      obtain ⟨MM, hMM⟩ : ∃ L, L = mgL (ls.take i) := ⟨_, rfl⟩
      rw [← hMM] at hO HG
      have HMx : Hid (mgL (ls.take (i + 1)) = MM ++ [(decide (x.getD 0 0 = 45), nIs (msgL x))]) := by show _ = _; rw [mgL_next ls i HIn.out, ← hMM, ← hx]
      have HAx : Hid ((ls.take (i + 1)).all msgB = msgB x) := by
        show _ = _
        rw [List.take_add_one, List.getElem?_eq_getElem HIn.out, List.all_append, HG.out.1, hx]
        have := HIn.out
        simp [this]
      generalize (⟨x.toArray⟩ : ByteArray) = XB at g1 HC
      clear hx hMM
      go_wp2_with fail
      refine (HC.out _ (HT.out.kept hO.below)).mono ?_
      intro e w2 hmsg
      rcases hmsg with ⟨hmb, vt, rfl, hOt⟩ | ⟨hmb, q, rfl, b2⟩
      · obtain ⟨at', ct, rfl⟩ := tk_len hOt
        have hO2 := hO.fresh (p := Rw.tk (.slice at' (msgL x).length ct) (msgL x)) (hOt.rows _ (List.mem_cons_self ..)) hOt.below
        obtain ⟨q, hq⟩ : ∃ q : Bool, q = decide (x.getD 0 0 = 45) := ⟨_, rfl⟩
        rw [← hq] at HMx ⊢
        obtain ⟨ML, hML⟩ : ∃ l : List Nat, l = msgL x := ⟨_, rfl⟩
        rw [← hML] at hO2 HMx ⊢
        have HO2 : Hid (OwnG w (⟨48, 2, u4, i, msX MM vs⟩ :: ⟨64, 1, .slice at' ML.length ct, ML.length, (nIs ML).map (Value.int .i64)⟩ :: rest) w2) := hO2.swap
        have HG2 : Hid ((ls.take (i + 1)).all msgB = true ∧ MkR (⟨64, 1, .slice at' ML.length ct, ML.length, (nIs ML).map (Value.int .i64)⟩ :: rest) (vs ++ [.slice at' ML.length ct]) (mgL (ls.take (i + 1)))) := by
          refine ⟨by rw [HAx.out]; exact hmb, ?_⟩
          rw [HMx.out]
          have := HG.out.2.next (q, nIs ML) (.slice at' ML.length ct)
          have e : (nIs ML).length = ML.length := by simp [nIs]
          rw [show ((q, nIs ML) : Bool × List Int).2.length = ML.length from e] at this
          exact this
        have HXn : Hid (msX MM vs ++ [.bool q, .slice at' ML.length ct] = msX (mgL (ls.take (i + 1))) (vs ++ [.slice at' ML.length ct])) := by show _ = _; rw [HMx.out]; exact msX_next MM vs (q, nIs ML) _ HG.out.2.len
        clear hO hOt hO2 hmb hq hML
        go_wp2_with (refine wpList_alloc_blk rfl 48 rfl [.bool false, .slice none 0 0] (allocMsg _) ?_)
        intro w4 r4 b4 s4
        go_wp2_with (refine wpList_store_part rfl 48 _ _ rfl rfl [.bool q, .slice at' ML.length ct] rfl [] [.bool false, .slice none 0 0] [] [.bool q, .slice at' ML.length ct] r4 rfl rfl rfl rfl infoMsg (oneCell2 _ _ _ _) ?_)
        intro w5 r5 hw5
        have hO5 := (HO2.out.kept b4).wrote hw5 HO2.out.below.size (fun r hr b hb => by have := HO2.out.lt r hr b hb; omega)
        clear r4 b4 s4 hw5
        go_wp2_with (first
          | refine wpList_load_part rfl 48 _ rfl rfl [] [.bool q, .slice at' ML.length ct] [] r5 rfl rfl Tryz.underlying48 rfl infoMsg ?_
          | (at_builtin; go_must (refine wpList_append_E rfl _ _ 23 rfl 48 ti _ 2 32 Tryz.underlying23 hti hz0 hz1 hz2 rfl (by decide) _ i (msX MM vs) rfl (hO5.kept (growB _)) ⟨w5.heap.size, 0, none⟩ 1 1 [.bool q, .slice at' ML.length ct] rfl rfl (news2 _ _ rfl) (by intro u hu; simp at hu; rcases hu with rfl | rfl <;> rfl) (by unfold maxLen; omega) (by omega) ?_)))
        intro v8 w8 hO8 hC8
        rw [HXn.out] at hO8
        clear hO5 hC8 r5
        go_wp2
        go_roundw
        case rel => exact ⟨i + 1, _, _, by omega, by go_num, HG2, hO8⟩
        case measure => simp [intOf] <;> omega
      · have HF : Hid (ls.all msgB = false) := by
          show _ = _
          rw [List.all_eq_false]
          refine ⟨x, ?_, by rw [hmb]; simp⟩
          rw [HXe.out]
          have := HIn.out
          simp [this]
        have HB2 : Hid (Below w.heap.size w w2) := stepB hO.below b2
        clear hO b2 hmb
        go_wp2_with (refine wpList_alloc_blk rfl 48 rfl [.bool false, .slice none 0 0] (allocMsg _) ?_)
        intro w4 r4 b4 s4
        go_wp2_with (refine wpList_store_part rfl 48 _ _ rfl rfl [.bool q, .slice none 0 0] rfl [] [.bool false, .slice none 0 0] [] [.bool q, .slice none 0 0] r4 rfl rfl rfl rfl infoMsg (oneCell2 _ _ _ _) ?_)
        intro w5 r5 hw5
        have HB5 : Hid (Below w.heap.size w w5) := stepB HB2.out (hw5.below _ _ (Nat.le_refl _) b4)
        clear r4 b4 s4 hw5 r5
        go_wp2
        go_ret2
        exact .inr ⟨HF.out, rfl, HB5.out⟩
    · have hd : decide ((i : Int) < (n : Int)) = false := decide_eq_false (by omega)
      have hiI : (n : Int) ≤ (i : Int) := by omega
      have hie : ls.take i = ls := List.take_of_length_le (by have := HN.out; omega)
      have HF : Hid (ls.all msgB = true ∧ (∀ W, Chg (fun b => b < w.heap.size) wr W → MsR W u4 ⟨[], false, false, mgL ls⟩) ∧ Below w.heap.size w wr) := by
        have h1 := HG.out.1
        have h2 := HG.out.2
        rw [hie] at h1 h2 hO
        refine ⟨h1, fun W hW => MsR.of_rows (base := w.heap.size) (p := ⟨[], false, false, mgL ls⟩) (rest := rest) (vs := vs) ?_ h2, hO.below⟩
        have e : Ptn.n ⟨[], false, false, mgL ls⟩ = i := by show (mgL ls).length = i; rw [mgL_len]; have := HN.out; omega
        rw [e]
        exact fun q hq => own_chgG (hO.rows q hq) hW fun b hb hlt => by have := ((hO.rows q hq).lt b hb).1; omega
      clear hO hie
      go_wp2
      go_ret2
      exact .inl ⟨HF.out.1, _, rfl, HF.out.2⟩
end Go.Proofs.YtpoibhhijidobabGreatDoor

/- A pattern's text: contracts of package pattern, thirteenth part. -/
namespace Go.Proofs.YtpoibhhijidobabGreatDoor
open Go.ChangeShapes Go.WideShapes Go.ChangeAt Go.RowKit
set_option linter.unusedSimpArgs false
set_option linter.unusedVariables false

theorem info2b : (Tryz.prog.info? 22).map (·.size) = some 2 := by kernel_rfl
theorem idx_bb0 (a b : Bool) (w : World) : (Instr.index 22 (.agg #[.bool a, .bool b]) (.int .i64 0)).run Tryz.prog w = .ok (.bool a) w := by kernel_rfl
theorem idx_bb1 (a b : Bool) (w : World) : (Instr.index 22 (.agg #[.bool a, .bool b]) (.int .i64 1)).run Tryz.prog w = .ok (.bool b) w := by kernel_rfl
/-- The lines of the first i sides whose key is known. -/
def knS (ki kr : Bool) : Nat → List (List UInt8)
  | 0 => []
  | 1 => if ki then [mlL true [2]] else []
  | _ => (if ki then [mlL true [2]] else []) ++ (if kr then [mlL false [2]] else [])
/-- The lines that tell whose keys are known. -/
def knA (ki kr : Bool) : List (List UInt8) := knS ki kr 2 ++ (if ki || kr then [[32, 32, 46, 46, 46]] else [])
theorem knS_len (ki kr : Bool) : ∀ i, (knS ki kr i).length ≤ 2
  | 0 => by simp [knS]
  | 1 => by cases ki <;> simp [knS]
  | i + 2 => by show ((if ki then [mlL true [2]] else []) ++ (if kr then [mlL false [2]] else [])).length ≤ 2; cases ki <;> cases kr <;> simp
theorem two_ok : ∀ j, j < ([2] : List Int).length → 1 ≤ ([2] : List Int).getD j 0 ∧ ([2] : List Int).getD j 0 ≤ 10 := by decide
theorem litT (x : Int) (w : World) (e : TypeId) : RdI .i64 (w.alloc (.cells #[.int .i64 x] e)) (.slice (some ⟨w.heap.size, 0, none⟩) 1 1) [x] := litI15 x

set_option maxRecDepth 100000 in
set_option maxHeartbeats 8000000 in
theorem knownLines_any (ki kr : Bool) (A : Array Value) (hA : A = #[.bool ki, .bool kr]) (w : World) (hT : TkT w) :
    Calls Tryz.prog 21 #[.agg A] w fun e w' => ∃ v, e = .returned v ∧ OwnG w [Rw.st v (knA ki kr)] w' := by
  obtain ⟨ti, hti, hz0, hz1, hz2⟩ := info_parts infoStr
  have HT : Hid (TkT w) := hT
  clear hT
  go_enter Tryz.func21, Tryz.ntmps21
  go_wp2_with (refine wpList_box_blk rfl 22 _ rfl [.bool ki, .bool kr] (by rw [← hA]; rfl) ?_)
  intro w1 r1 b1 s1
  have HT1 : Hid (TkT w1) := HT.out.kept b1
  have HB1 : Hid (Below w.heap.size w w1) := b1
  have hO0 : OwnG w1 [Rw.st (.slice none 0 0) (knS ki kr 0)] w1 := (OwnG.start w1).nil 9 1
  clear b1 s1 hA HT
  go_wp2_with (refine wpList_load_part rfl 22 _ rfl rfl [] [.bool ki, .bool kr] [] r1 rfl rfl Tryz.underlying22 rfl info2b ?_)
  clear r1
  go_loopw [3, 7] (fun ov iv wx => ∃ i : Nat, i ≤ 2 ∧ iv = .int .i64 (i : Int) ∧ OwnG w1 [Rw.st ov (knS ki kr i)] wx) (fun _ iv _ => 2 - (intOf iv).toNat)
  case atStart => exact ⟨0, by omega, rfl, hO0⟩
  case round =>
    obtain ⟨i, hi, rfl, hO⟩ := hrel
    clear hO0
    have hLn := knS_len ki kr i
    have hi3 : i = 0 ∨ i = 1 ∨ i = 2 := by omega
    rcases hi3 with rfl | rfl | rfl
    · have ix := fun w => idx_bb0 ki kr w
      obtain ⟨kb, hkb⟩ : ∃ b : Bool, b = ki := ⟨_, rfl⟩
      have ix2 : ∀ w : World, (Instr.index 22 (.agg #[.bool ki, .bool kr]) (.int .i64 0)).run Tryz.prog w = .ok (.bool kb) w := fun w => by rw [hkb]; exact idx_bb0 ki kr w
      have HK : Hid (kb = ki) := hkb
      clear hkb ix
      obtain ⟨LL, hLL⟩ : ∃ L : List (List UInt8), L = knS ki kr 0 := ⟨_, rfl⟩
      rw [← hLL] at hO hLn
      have HLL : Hid (LL = knS ki kr 0) := hLL
      clear hLL
      cases kb with
      | false =>
        have hO5 : OwnG w1 [Rw.st u3 (knS ki kr 1)] wr := by
          have e : knS ki kr 1 = LL := by
            rw [HLL.out]
            have := HK.out
            simp [knS, ← this]
          rw [e]
          exact hO
        clear hO
        go_wp2
        go_roundw
        case rel => exact ⟨1, by omega, by go_num, hO5⟩
        case measure => simp [intOf]
      | true =>
        have hb2 := stepB hO.below (growB (w := wr) (.cells #[.int .i64 2] 64))
        go_wp2_with fail
        refine (line_any true _ rfl [2] _ (by decide) two_ok _ (litT 2 wr 64) (HT1.out.kept hb2)).mono ?_
        rintro e w4 ⟨rfl, b4⟩
        have hO4 := (hO.kept (growB (.cells #[.int .i64 2] 64))).kept b4
        obtain ⟨WB, hWB⟩ : ∃ B : ByteArray, B = ⟨(mlL true [2]).toArray⟩ := ⟨_, rfl⟩
        rw [← hWB]
        have HN : Hid (stC LL ++ [.string WB] = stC (LL ++ [mlL true [2]])) := by show _ = _; rw [hWB, stC_next]
        have HL : Hid (LL ++ [mlL true [2]] = knS ki kr 1) := by
          show _ = _
          rw [HLL.out]
          have := HK.out
          simp [knS, ← this]
        clear hWB b4 hb2 hO
        go_wp2_with (at_builtin; go_must (refine wpList_append_E rfl _ _ 54 rfl 9 ti _ 1 16 Tryz.underlying54 hti hz0 hz1 hz2 rfl (by decide) _ LL.length (stC LL) rfl (hO4.kept (growB _)) ⟨w4.heap.size, 0, none⟩ 1 1 [.string WB] rfl rfl (news1 _ rfl) (by intro u hu; simp at hu; subst hu; rfl) (by unfold maxLen; omega) (by omega) ?_))
        intro v6 w6 hO6 hC6
        rw [HN.out] at hO6
        have hO7 : OwnG w1 [Rw.st v6 (knS ki kr 1)] w6 := by
          rw [← HL.out]
          have e : LL.length + 1 = (LL ++ [mlL true [2]]).length := by simp
          rw [e] at hO6
          exact hO6
        clear hO4 hO6 hC6
        go_wp2
        go_roundw
        case rel => exact ⟨1, by omega, by go_num, hO7⟩
        case measure => simp [intOf]
    · have ix := fun w => idx_bb1 ki kr w
      obtain ⟨kb, hkb⟩ : ∃ b : Bool, b = kr := ⟨_, rfl⟩
      have ix2 : ∀ w : World, (Instr.index 22 (.agg #[.bool ki, .bool kr]) (.int .i64 1)).run Tryz.prog w = .ok (.bool kb) w := fun w => by rw [hkb]; exact idx_bb1 ki kr w
      have HK : Hid (kb = kr) := hkb
      clear hkb ix
      obtain ⟨LL, hLL⟩ : ∃ L : List (List UInt8), L = knS ki kr 1 := ⟨_, rfl⟩
      rw [← hLL] at hO hLn
      have HLL : Hid (LL = knS ki kr 1) := hLL
      clear hLL
      cases kb with
      | false =>
        have hO5 : OwnG w1 [Rw.st u3 (knS ki kr 2)] wr := by
          have e : knS ki kr 2 = LL := by
            rw [HLL.out]
            have := HK.out
            simp [knS, ← this]
          rw [e]
          exact hO
        clear hO
        go_wp2
        go_roundw
        case rel => exact ⟨2, by omega, by go_num, hO5⟩
        case measure => simp [intOf]
      | true =>
        have hb2 := stepB hO.below (growB (w := wr) (.cells #[.int .i64 2] 64))
        go_wp2_with fail
        refine (line_any false _ rfl [2] _ (by decide) two_ok _ (litT 2 wr 64) (HT1.out.kept hb2)).mono ?_
        rintro e w4 ⟨rfl, b4⟩
        have hO4 := (hO.kept (growB (.cells #[.int .i64 2] 64))).kept b4
        obtain ⟨WB, hWB⟩ : ∃ B : ByteArray, B = ⟨(mlL false [2]).toArray⟩ := ⟨_, rfl⟩
        rw [← hWB]
        have HN : Hid (stC LL ++ [.string WB] = stC (LL ++ [mlL false [2]])) := by show _ = _; rw [hWB, stC_next]
        have HL : Hid (LL ++ [mlL false [2]] = knS ki kr 2) := by
          show _ = _
          rw [HLL.out]
          have := HK.out
          simp [knS, ← this]
        clear hWB b4 hb2 hO
        go_wp2_with (at_builtin; go_must (refine wpList_append_E rfl _ _ 54 rfl 9 ti _ 1 16 Tryz.underlying54 hti hz0 hz1 hz2 rfl (by decide) _ LL.length (stC LL) rfl (hO4.kept (growB _)) ⟨w4.heap.size, 0, none⟩ 1 1 [.string WB] rfl rfl (news1 _ rfl) (by intro u hu; simp at hu; subst hu; rfl) (by unfold maxLen; omega) (by omega) ?_))
        intro v6 w6 hO6 hC6
        rw [HN.out] at hO6
        have hO7 : OwnG w1 [Rw.st v6 (knS ki kr 2)] w6 := by
          rw [← HL.out]
          have e : LL.length + 1 = (LL ++ [mlL false [2]]).length := by simp
          rw [e] at hO6
          exact hO6
        clear hO4 hO6 hC6
        go_wp2
        go_roundw
        case rel => exact ⟨2, by omega, by go_num, hO7⟩
        case measure => simp [intOf]
    · obtain ⟨LL, hLL⟩ : ∃ L : List (List UInt8), L = knS ki kr 2 := ⟨_, rfl⟩
      rw [← hLL] at hO hLn
      have HLL : Hid (LL = knS ki kr 2) := hLL
      obtain ⟨a3, c3, rfl, h31, h32, -, -⟩ : ∃ a c, u3 = .slice a LL.length c ∧ LL.length ≤ c ∧ c ≤ maxLen ∧ True ∧ True := by
        obtain ⟨a, c, e, h1, h2, -, -⟩ := hO.rdC rfl
        rw [stC_length15] at e h1
        exact ⟨a, c, e, h1, h2, trivial, trivial⟩
      unfold maxLen at h32
      have HLe : Hid (decide ((0 : Int) < (LL.length : Int)) = (ki || kr)) := by
        show _ = _
        rw [hLL]
        cases ki <;> cases kr <;> simp [knS]
      obtain ⟨n, hn⟩ : ∃ n : Nat, n = LL.length := ⟨_, rfl⟩
      have HNl : Hid (n = LL.length) := hn
      replace hO : OwnG w1 [⟨9, 1, .slice a3 n c3, n, stC LL⟩] wr := by rw [hn]; exact hO
      rw [← hn] at hLn HLe h31 ⊢
      clear hLL hn
      by_cases h0 : 0 < n
      · have d1 : decide ((0 : Int) < (n : Int)) = true := decide_eq_true (by omega)
        have d2 : (0 : Int) < (n : Int) := by omega
        have HA2 : Hid (LL ++ [[32, 32, 46, 46, 46]] = knA ki kr) := by show _ = _; unfold knA; rw [← HLe.out, decide_eq_true d2, HLL.out]; rfl
        have HN : Hid (stC LL ++ [.string ⟨#[32, 32, 46, 46, 46]⟩] = stC (LL ++ [[32, 32, 46, 46, 46]])) := by show _ = _; rw [← stC_next]
        go_wp2_with (at_builtin; go_must (refine wpList_append_E rfl _ _ 54 rfl 9 ti _ 1 16 Tryz.underlying54 hti hz0 hz1 hz2 rfl (by decide) _ n (stC LL) rfl (hO.kept (growB _)) ⟨wr.heap.size, 0, none⟩ 1 1 [.string ⟨#[32, 32, 46, 46, 46]⟩] rfl rfl (news1 _ rfl) (by intro u hu; simp at hu; subst hu; rfl) (by unfold maxLen; omega) (by omega) ?_))
        intro v6 w6 hO6 hC6
        have HF : Hid (OwnG w [Rw.st v6 (knA ki kr)] w6) := by
          rw [HN.out] at hO6
          rw [← HA2.out]
          have e : n + 1 = (LL ++ [[32, 32, 46, 46, 46]]).length := by rw [HNl.out]; simp
          rw [e] at hO6
          exact hO6.from HB1.out
        clear hO hO6 hC6
        go_wp2
        go_ret
        exact ⟨_, rfl, HF.out⟩
      · have d1 : decide ((0 : Int) < (n : Int)) = false := decide_eq_false (by omega)
        have d2 : (n : Int) ≤ 0 := by omega
        have HF : Hid (OwnG w [Rw.st (.slice a3 n c3) (knA ki kr)] wr) := by
          have e : knA ki kr = LL := by unfold knA; rw [← HLe.out, d1, HLL.out]; simp
          rw [e]
          show OwnG w [⟨9, 1, .slice a3 n c3, LL.length, stC LL⟩] wr
          rw [← HNl.out]
          exact hO.from HB1.out
        clear hO
        go_wp2
        go_ret
        exact ⟨_, rfl, HF.out⟩
end Go.Proofs.YtpoibhhijidobabGreatDoor

/- What stands ahead of the dots: contracts of package pattern, nineteenth part. -/
namespace Go.Proofs.YtpoibhhijidobabGreatDoor
open Go.ChangeShapes Go.WideShapes Go.ChangeAt Go.RowKit
set_option linter.unusedSimpArgs false
set_option linter.unusedVariables false

/-- Lines that are cut, in front or behind. -/
theorem headS {op : Oper} {a : Act} {W : World} {ab : Option Addr} {L cb m : Nat} (x h : Operand) (ho : op.op = .slice 54 x none (some h) none) (hx : a.eval x = .slice ab L cb) (hh : a.eval h = .int .i64 (m : Int)) (hm : m ≤ L) (hL : L ≤ cb) (hc : cb ≤ maxLen) (hn : ab = none → cb = 0) :
    (execOp a.eval op).run Tryz.prog W = .ok (.value (.slice ab m cb)) W := by
  have h1 : (m : Int) ≤ (cb : Int) := by omega
  unfold maxLen at hc
  unfold execOp
  simp only [ho, hx, hh, Option.map]
  cases ab with
  | none =>
    have := hn rfl
    subst this
    obtain rfl : m = 0 := by omega
    obtain rfl : L = 0 := by omega
    go_simp
  | some y =>
    go_simp
theorem headC {w : World} {ab : Option Addr} {L cb m : Nat} {xs : List Value} (h : RdC w (.slice ab L cb) xs) (hm : m ≤ L) : RdC w (.slice ab m cb) (xs.take m) := by
  obtain ⟨a', c', ev, h3, h4, h5, h6⟩ := h
  simp only [Value.slice.injEq] at ev
  obtain ⟨rfl, hL, rfl⟩ := ev
  have hl : (xs.take m).length = m := by rw [List.length_take]; omega
  refine ⟨_, _, by rw [hl], by rw [hl]; omega, h4, h5, ?_⟩
  rcases h6 with rfl | ⟨g, off, e, hcell⟩
  · exact .inl (by simp)
  · refine .inr ⟨g, off, e, fun i hi => ?_⟩
    rw [hl] at hi
    rw [hcell i (by omega), List.getElem?_take, if_pos hi]
theorem tailS {ab : Option Addr} {L cb m : Nat} (hm : m ≤ L) (hL : L ≤ cb) (hc : cb ≤ maxLen) (hn : ab = none → cb = 0) :
    ∃ ab' : Option Addr, (∀ {op : Oper} {a : Act} {W : World} (x h : Operand), op.op = .slice 54 x (some h) none none → a.eval x = .slice ab L cb → a.eval h = .int .i64 (m : Int) → (execOp a.eval op).run Tryz.prog W = .ok (.value (.slice ab' (L - m) (cb - m))) W) ∧
      ∀ (w : World) (b : List Value), RdC w (.slice ab L cb) b → RdC w (.slice ab' (L - m) (cb - m)) (b.drop m) := by
  have h1 : (m : Int) ≤ (L : Int) := by omega
  have h2 : (L : Int) ≤ (cb : Int) := by omega
  unfold maxLen at hc
  cases ab with
  | none =>
    have := hn rfl
    subst this
    obtain rfl : L = 0 := by omega
    obtain rfl : m = 0 := by omega
    refine ⟨none, fun x h ho hx hh => ?_, fun w b hb => hb⟩
    unfold execOp
    simp only [ho, hx, hh, Option.map]
    go_simp
  | some y =>
    by_cases hcm : cb = m
    · refine ⟨some y, fun x h ho hx hh => ?_, fun w b hb => ?_⟩
      · unfold execOp
        simp only [ho, hx, hh, Option.map]
        go_simp
      · obtain ⟨a', c', ev, h3, h4, h5, h6⟩ := hb
        simp only [Value.slice.injEq] at ev
        obtain ⟨rfl, hLb, rfl⟩ := ev
        have h0 : b.drop m = [] := List.drop_eq_nil_of_le (by omega)
        rw [h0, show L - m = 0 by omega, hcm, Nat.sub_self]
        exact ⟨_, 0, rfl, by simp, by simp, fun _ => rfl, .inl rfl⟩
    · refine ⟨some (y.add m), fun x h ho hx hh => ?_, fun w b hb => ?_⟩
      · unfold execOp
        simp only [ho, hx, hh, Option.map]
        go_simp
      · obtain ⟨a', c', ev, h3, h4, h5, h6⟩ := hb
        simp only [Value.slice.injEq] at ev
        obtain ⟨rfl, hLb, rfl⟩ := ev
        refine ⟨_, _, (by rw [List.length_drop, ← hLb]), (by rw [List.length_drop]; omega), (by unfold maxLen; omega), (fun h => by cases h), ?_⟩
        rcases h6 with rfl | ⟨g, off, e, hcell⟩
        · exact .inl (by simp)
        · simp only [Option.some.injEq] at e
          subst e
          refine .inr ⟨g, off + m, by unfold Addr.add; split <;> simp_all, fun i hi => ?_⟩
          rw [List.length_drop] at hi
          rw [Nat.add_assoc, hcell (m + i) (by omega), List.getElem?_drop]
/-- An operation that touches no memory. -/
theorem wpList_valP {P : Program} {ops : Array Oper} {rest : List Oper} {op : Oper} {a : Act} {w : World} {Q : Exit → Act → World → Prop} {v : Value} (hgd : op.guard = none) (hy : (execOp a.eval op).run P w = .ok (.value v) w)
    (h : wpList P ops Q rest (a.put op.dst v) w) : wpList P ops Q (op :: rest) a w := by
  refine wpList_plain hgd fun K hK => ?_
  unfold Oper.wp
  rw [hy]
  exact hK _ _ h
/-- Does a line say that a side's key is known? -/
def tlB (b : Bool) (x : List UInt8) : Bool := (if b then ar0 else ar1).isPrefixOf x && decide (tmT (x.drop 2) = [115])

set_option maxRecDepth 100000 in
set_option maxHeartbeats 4000000 in
theorem tellsKnown_any (b : Bool) (x : List UInt8) (hx : x.length ≤ 4096) (AB : ByteArray) (hAB : AB = ⟨(if b then ar0 else ar1).toArray⟩) (w : World) (hT : TkT w) :
    Calls Tryz.prog 90 #[.string ⟨x.toArray⟩, .string AB] w fun e w' => e = .returned (.bool (tlB b x)) ∧ Below w.heap.size w w' := by
  obtain ⟨ar, har⟩ : ∃ a : List UInt8, a = if b then ar0 else ar1 := ⟨_, rfl⟩
  have har2 : ar.length = 2 := by rw [har]; cases b <;> rfl
  have HC : Hid (Calls Tryz.prog 101 #[.string ⟨x.toArray⟩, .string AB] w fun e w' => e = .returned (.tuple #[.string ⟨(if ar.isPrefixOf x then x.drop 2 else x).toArray⟩, .bool (ar.isPrefixOf x)]) ∧ w' = w) := by
    rw [hAB, ← har]
    have := cutP_any x ar w
    rw [har2] at this
    exact this
  have HB : Hid (tlB b x = (ar.isPrefixOf x && decide (tmT (x.drop 2) = [115]))) := by show _ = _; unfold tlB; rw [← har]
  have HX : Hid (x.length ≤ 4096) := hx
  have cw : w.cell? ⟨0, 2, none⟩ = some (.string ⟨#[115]⟩) := hT.words 2 (by omega)
  generalize (⟨x.toArray⟩ : ByteArray) = XB at HC ⊢
  clear hAB har har2 hx hT
  go_enter Tryz.func90, Tryz.ntmps90
  go_wp2_with fail
  refine HC.out.mono ?_
  rintro e w1 ⟨rfl, rfl⟩
  obtain ⟨z, hz⟩ : ∃ z : Bool, z = ar.isPrefixOf x := ⟨_, rfl⟩
  rw [← hz] at HB ⊢
  clear hz HC
  cases z with
  | false =>
    rw [if_neg (by simp)]
    have HB2 : Hid (tlB b x = false) := by show _ = _; rw [HB.out]; rfl
    generalize (⟨x.toArray⟩ : ByteArray) = YB
    go_wp2_with fail
    refine wpG_begin (by kernel_rfl) ?_
    refine wpG_take (i := 0) (oi := { dst := some 13, op := Op.move (Operand.tmp 6), type := 4, pos := "text.go:92", after := #[], guard := none }) (v := ?_) rfl (by kernel_rfl) (by kernel_rfl) (by kernel_rfl) (by rfl) ?_ ?_
    rotate_left
    · intro W hW; first | (go_simp; done) | (go_simp; with_reducible rfl)
    try simp only [Act.put, List.setIfInBounds_toArray, List.set_cons_zero, List.set_cons_succ]
    refine wpG_take (i := 1) (oi := { dst := some 14, op := Op.move (Operand.tmp 13), type := 4, pos := "text.go:92", after := #[{ on := 0, ground := Ground.data }], guard := none }) (v := ?_) rfl (by kernel_rfl) (by kernel_rfl) (by kernel_rfl) (by rfl) ?_ ?_
    rotate_left
    · intro W hW; first | (go_simp; done) | (go_simp; with_reducible rfl)
    try simp only [Act.put, List.setIfInBounds_toArray, List.set_cons_zero, List.set_cons_succ]
    refine wpG_skip (i := 2) (oi := { dst := some 15, op := Op.move (Operand.tmp 5), type := 9, pos := "text.go:92", after := #[{ on := 1, ground := Ground.guard }], guard := some (1, true) }) rfl (by kernel_rfl) (by kernel_rfl) (by kernel_rfl) (by rfl) ?_
    try simp only [Act.put, List.setIfInBounds_toArray, List.set_cons_zero, List.set_cons_succ]
    refine wpG_skip (i := 3) (oi := { dst := some 16, op := Op.call { callee := Callee.value (Operand.func 54), args := #[Operand.tmp 15, Operand.const (Value.string { data := #[32] })], argTypes := #[9, 9] }, type := 9, pos := "text.go:92", after := #[{ on := 2, ground := Ground.data }, { on := 1, ground := Ground.chain }, { on := 1, ground := Ground.guard }], guard := some (1, true) }) rfl (by kernel_rfl) (by kernel_rfl) (by kernel_rfl) (by rfl) ?_
    try simp only [Act.put, List.setIfInBounds_toArray, List.set_cons_zero, List.set_cons_succ]
    refine wpG_skip (i := 4) (oi := { dst := some 17, op := Op.indexAddr 92 (Operand.global 0) (Operand.const (Value.int IntKind.i64 2)), type := 0, pos := "text.go:92", after := #[{ on := 1, ground := Ground.guard }], guard := some (1, true) }) rfl (by kernel_rfl) (by kernel_rfl) (by kernel_rfl) (by rfl) ?_
    try simp only [Act.put, List.setIfInBounds_toArray, List.set_cons_zero, List.set_cons_succ]
    refine wpG_skip (i := 5) (oi := { dst := some 18, op := Op.load 9 (Operand.tmp 17), type := 9, pos := "text.go:92", after := #[{ on := 4, ground := Ground.data }, { on := 1, ground := Ground.guard }], guard := some (1, true) }) rfl (by kernel_rfl) (by kernel_rfl) (by kernel_rfl) (by rfl) ?_
    try simp only [Act.put, List.setIfInBounds_toArray, List.set_cons_zero, List.set_cons_succ]
    refine wpG_skip (i := 6) (oi := { dst := some 19, op := Op.binOp BinOp.eql 9 (Operand.tmp 16) (Operand.tmp 18) 9, type := 4, pos := "text.go:92", after := #[{ on := 3, ground := Ground.data }, { on := 5, ground := Ground.data }, { on := 1, ground := Ground.guard }], guard := some (1, true) }) rfl (by kernel_rfl) (by kernel_rfl) (by kernel_rfl) (by rfl) ?_
    try simp only [Act.put, List.setIfInBounds_toArray, List.set_cons_zero, List.set_cons_succ]
    refine wpG_take (i := 7) (oi := { dst := some 20, op := Op.pick (Operand.tmp 14) (Operand.tmp 19) (Operand.const (Value.bool false)), type := 4, pos := "text.go:92", after := #[{ on := 1, ground := Ground.data }, { on := 6, ground := Ground.data }], guard := none }) (v := ?_) rfl (by kernel_rfl) (by kernel_rfl) (by kernel_rfl) (by rfl) ?_ ?_
    rotate_left
    · intro W hW; first | (go_simp; done) | (go_simp; with_reducible rfl)
    try simp only [Act.put, List.setIfInBounds_toArray, List.set_cons_zero, List.set_cons_succ]
    refine wpG_take (i := 8) (oi := { dst := some 4, op := Op.assign (Operand.tmp 20), type := 4, pos := "text.go:92", after := #[{ on := 7, ground := Ground.data }, { on := 3, ground := Ground.chain }, { on := 0, ground := Ground.phase }, { on := 1, ground := Ground.phase }, { on := 2, ground := Ground.phase }, { on := 3, ground := Ground.phase }, { on := 4, ground := Ground.phase }, { on := 5, ground := Ground.phase }, { on := 6, ground := Ground.phase }, { on := 7, ground := Ground.phase }], guard := none }) (v := ?_) rfl (by kernel_rfl) (by kernel_rfl) (by kernel_rfl) (by rfl) ?_ ?_
    rotate_left
    · intro W hW; first | (go_simp; done) | (go_simp; with_reducible rfl)
    try simp only [Act.put, List.setIfInBounds_toArray, List.set_cons_zero, List.set_cons_succ]
    refine wpG_done (by kernel_rfl) ?_
    go_wp2
    go_ret
    exact ⟨by rw [HB2.out]; rfl, (Below.refl _ _).drew⟩
  | true =>
    rw [if_pos rfl]
    have HB2 : Hid (tlB b x = decide (tmT (x.drop 2) = [115])) := by show _ = _; rw [HB.out]; rfl
    have HC2 : Hid (∀ W : World, Calls Tryz.prog 54 #[.string ⟨(x.drop 2).toArray⟩, .string ⟨#[32]⟩] W fun e w' => e = .returned (.string ⟨(tmT (x.drop 2)).toArray⟩) ∧ Below W.heap.size W w') := fun W => trim_any (x.drop 2) (by rw [List.length_drop]; have := HX.out; omega) W
    generalize (⟨(x.drop 2).toArray⟩ : ByteArray) = YB at HC2
    obtain ⟨TB, hTB⟩ : ∃ B : ByteArray, B = ⟨(tmT (x.drop 2)).toArray⟩ := ⟨_, rfl⟩
    rw [← hTB] at HC2
    have hTl : TB.toList = tmT (x.drop 2) := by rw [hTB]; exact str_toList _
    obtain ⟨r, hr⟩ : ∃ r : Bool, r = decide (tmT (x.drop 2) = [115]) := ⟨_, rfl⟩
    have hcmp : (TB.toList == [115]) = r := by rw [hTl, hr, list_beq]
    rw [← hr] at HB2
    clear hTB hTl hr
    go_wp2_with fail
    refine wpG_begin (by kernel_rfl) ?_
    refine wpG_take (i := 0) (oi := { dst := some 13, op := Op.move (Operand.tmp 6), type := 4, pos := "text.go:92", after := #[], guard := none }) (v := ?_) rfl (by kernel_rfl) (by kernel_rfl) (by kernel_rfl) (by rfl) ?_ ?_
    rotate_left
    · intro W hW; first | (go_simp; done) | (go_simp; with_reducible rfl)
    try simp only [Act.put, List.setIfInBounds_toArray, List.set_cons_zero, List.set_cons_succ]
    refine wpG_take (i := 1) (oi := { dst := some 14, op := Op.move (Operand.tmp 13), type := 4, pos := "text.go:92", after := #[{ on := 0, ground := Ground.data }], guard := none }) (v := ?_) rfl (by kernel_rfl) (by kernel_rfl) (by kernel_rfl) (by rfl) ?_ ?_
    rotate_left
    · intro W hW; first | (go_simp; done) | (go_simp; with_reducible rfl)
    try simp only [Act.put, List.setIfInBounds_toArray, List.set_cons_zero, List.set_cons_succ]
    refine wpG_take (i := 2) (oi := { dst := some 15, op := Op.move (Operand.tmp 5), type := 9, pos := "text.go:92", after := #[{ on := 1, ground := Ground.guard }], guard := some (1, true) }) (v := ?_) rfl (by kernel_rfl) (by kernel_rfl) (by kernel_rfl) (by rfl) ?_ ?_
    rotate_left
    · intro W hW; first | (go_simp; done) | (go_simp; with_reducible rfl)
    try simp only [Act.put, List.setIfInBounds_toArray, List.set_cons_zero, List.set_cons_succ]
    refine wpG_take (i := 4) (oi := { dst := some 17, op := Op.indexAddr 92 (Operand.global 0) (Operand.const (Value.int IntKind.i64 2)), type := 0, pos := "text.go:92", after := #[{ on := 1, ground := Ground.guard }], guard := some (1, true) }) (v := ?_) rfl (by kernel_rfl) (by kernel_rfl) (by kernel_rfl) (by rfl) ?_ ?_
    rotate_left
    · intro W hW; first | (go_simp; done) | (go_simp; with_reducible rfl)
    try simp only [Act.put, List.setIfInBounds_toArray, List.set_cons_zero, List.set_cons_succ]
    refine wpG_take (i := 5) (oi := { dst := some 18, op := Op.load 9 (Operand.tmp 17), type := 9, pos := "text.go:92", after := #[{ on := 4, ground := Ground.data }, { on := 1, ground := Ground.guard }], guard := some (1, true) }) (v := ?_) rfl (by kernel_rfl) (by kernel_rfl) (by kernel_rfl) (by rfl) ?_ ?_
    rotate_left
    · intro W hW; have hcW := cellDK15 cw hW; first | (go_simp; done) | (go_simp; with_reducible rfl)
    try simp only [Act.put, List.setIfInBounds_toArray, List.set_cons_zero, List.set_cons_succ]
    refine wpG_do (i := 3) (o := { dst := some 16, op := Op.call { callee := Callee.value (Operand.func 54), args := #[Operand.tmp 15, Operand.const (Value.string { data := #[32] })], argTypes := #[9, 9] }, type := 9, pos := "text.go:92", after := #[{ on := 2, ground := Ground.data }, { on := 1, ground := Ground.chain }, { on := 1, ground := Ground.guard }], guard := some (1, true) }) (by kernel_rfl) rfl (by rfl) fun K hK => ?_
    go_simp
    refine (HC2.out _).mono ?_
    rintro e w2 ⟨rfl, b2⟩
    refine hK.out _ _ b2 ?_
    clear hK K
    try simp only [Act.put, List.setIfInBounds_toArray, List.set_cons_zero, List.set_cons_succ]
    refine wpG_take (i := 6) (oi := { dst := some 19, op := Op.binOp BinOp.eql 9 (Operand.tmp 16) (Operand.tmp 18) 9, type := 4, pos := "text.go:92", after := #[{ on := 3, ground := Ground.data }, { on := 5, ground := Ground.data }, { on := 1, ground := Ground.guard }], guard := some (1, true) }) (v := ?_) rfl (by kernel_rfl) (by kernel_rfl) (by kernel_rfl) (by rfl) ?_ ?_
    rotate_left
    · intro W hW; first | (go_simp; done) | (go_simp; with_reducible rfl)
    try simp only [Act.put, List.setIfInBounds_toArray, List.set_cons_zero, List.set_cons_succ]
    refine wpG_take (i := 7) (oi := { dst := some 20, op := Op.pick (Operand.tmp 14) (Operand.tmp 19) (Operand.const (Value.bool false)), type := 4, pos := "text.go:92", after := #[{ on := 1, ground := Ground.data }, { on := 6, ground := Ground.data }], guard := none }) (v := ?_) rfl (by kernel_rfl) (by kernel_rfl) (by kernel_rfl) (by rfl) ?_ ?_
    rotate_left
    · intro W hW; first | (go_simp; done) | (go_simp; with_reducible rfl)
    try simp only [Act.put, List.setIfInBounds_toArray, List.set_cons_zero, List.set_cons_succ]
    refine wpG_take (i := 8) (oi := { dst := some 4, op := Op.assign (Operand.tmp 20), type := 4, pos := "text.go:92", after := #[{ on := 7, ground := Ground.data }, { on := 3, ground := Ground.chain }, { on := 0, ground := Ground.phase }, { on := 1, ground := Ground.phase }, { on := 2, ground := Ground.phase }, { on := 3, ground := Ground.phase }, { on := 4, ground := Ground.phase }, { on := 5, ground := Ground.phase }, { on := 6, ground := Ground.phase }, { on := 7, ground := Ground.phase }], guard := none }) (v := ?_) rfl (by kernel_rfl) (by kernel_rfl) (by kernel_rfl) (by rfl) ?_ ?_
    rotate_left
    · intro W hW; first | (go_simp; done) | (go_simp; with_reducible rfl)
    try simp only [Act.put, List.setIfInBounds_toArray, List.set_cons_zero, List.set_cons_succ]
    refine wpG_done (by kernel_rfl) ?_
    have HBw : Hid (Below w1.heap.size w1 w2) := stepB ((Below.refl _ _).drew) b2
    go_wp2
    go_ret
    exact ⟨by rw [HB2.out]; rfl, HBw.out⟩
end Go.Proofs.YtpoibhhijidobabGreatDoor

/- Whose key is known: contracts of package pattern, twentieth part. -/
namespace Go.Proofs.YtpoibhhijidobabGreatDoor
open Go.ChangeShapes Go.WideShapes Go.ChangeAt Go.RowKit
set_option linter.unusedSimpArgs false
set_option linter.unusedVariables false

/-- Does the first of some lines say that a side's key is known? What is left of them then. -/
def kfS (b : Bool) (ls : List (List UInt8)) : Bool := decide (0 < ls.length) && tlB b (ls.getD 0 [])
def kfT (b : Bool) (ls : List (List UInt8)) : List (List UInt8) := if kfS b ls then ls.drop 1 else ls
/-- What is left behind the first i sides; who was said to be known. -/
def kfL (ls : List (List UInt8)) : Nat → List (List UInt8)
  | 0 => ls
  | 1 => kfT true ls
  | _ => kfT false (kfT true ls)
def kfI (ls : List (List UInt8)) : Nat → Bool
  | 0 => false
  | _ => kfS true ls
def kfR (ls : List (List UInt8)) : Nat → Bool
  | 0 => false
  | 1 => false
  | _ => kfS false (kfT true ls)
/-- Do the lines tell of somebody, and of nothing else? -/
def kfB (ls : List (List UInt8)) : Bool := (kfI ls 2 || kfR ls 2) && (kfL ls 2).isEmpty
theorem alloc_bb (w : World) : (Instr.alloc 22 true (.tuple #[])).run Tryz.prog w = .ok (.pointer (some ⟨w.heap.size, 0, none⟩)) (w.alloc (.cells #[.bool false, .bool false] 22)) := by kernel_rfl
theorem build_bb (w : World) : (Instr.build 22 #[]).run Tryz.prog w = .ok (.agg #[.bool false, .bool false]) w := by kernel_rfl
theorem eqBB (a b : Bool) (w : World) : (Op.equalIn 10000 22 (.agg #[.bool a, .bool b]) (.agg #[.bool false, .bool false])).run Tryz.prog w = .ok (!a && !b) w := by cases a <;> cases b <;> kernel_rfl
theorem oneBB (a b : Bool) : ([.bool a, .bool b] : List Value).toArray.all (·.oneCell') = true := all_oneCell_toArray (by
  intro v hv
  simp only [List.mem_cons, List.not_mem_nil, or_false] at hv
  rcases hv with rfl | rfl <;> rfl)
theorem kfT_sub (b : Bool) (ls : List (List UInt8)) (h : ls.length ≤ 4097 ∧ ∀ x ∈ ls, x.length ≤ 4096) : (kfT b ls).length ≤ 4097 ∧ ∀ x ∈ kfT b ls, x.length ≤ 4096 := by
  unfold kfT
  split
  · exact ⟨by rw [List.length_drop]; omega, fun x hx => h.2 x (List.mem_of_mem_drop hx)⟩
  · exact h
/-- A slice of texts does not lie where a block of two Booleans lies. -/
theorem rdC_wrote {w w' : World} {v : Value} {ls : List (List UInt8)} {g : Nat} {p q : Bool} (h : RdC w v (stC ls)) (hw : Wrote g w w') (hb : BlkAt g 22 [.bool p, .bool q] w) : RdC w' v (stC ls) := by
  obtain ⟨a, c, e, h2, h3, h4, h5⟩ := h
  refine ⟨a, c, e, h2, h3, h4, h5.imp id ?_⟩
  rintro ⟨b, off, e2, hc⟩
  refine ⟨b, off, e2, fun i hi => ?_⟩
  have hne : b ≠ g := by
    intro eb
    subst eb
    have h1 := hc i hi
    rw [hb.cell] at h1
    have hi' : i < ls.length := by rw [stC_length15] at hi; exact hi
    have e3 : (stC ls)[i]? = some (.string ⟨ls[i].toArray⟩) := by simp [stC, hi']
    rw [e3] at h1
    match off + i, h1 with
    | 0, h1 => simp at h1
    | 1, h1 => simp at h1
    | k + 2, h1 => simp at h1
  have := hw.other b hne
  rw [← hc i hi]
  unfold World.cell?
  rw [this]

set_option maxRecDepth 100000 in
set_option maxHeartbeats 8000000 in
theorem readKnown_any (ls : List (List UInt8)) (v : Value) (hls : ls.length ≤ 4097) (hx : ∀ x ∈ ls, x.length ≤ 4096) (w : World) (h : RdC w v (stC ls)) (hT : TkT w) :
    Calls Tryz.prog 72 #[v] w fun e w' => e = .returned (.tuple #[.agg #[.bool (kfI ls 2), .bool (kfR ls 2)], .bool (kfB ls)]) ∧ Below w.heap.size w w' := by
  obtain ⟨av, cv, rfl, -, -, -⟩ := st_len h
  have HT : Hid (TkT w) := hT
  have HLs : Hid (ls.length ≤ 4097 ∧ ∀ x ∈ ls, x.length ≤ 4096) := ⟨hls, hx⟩
  have HR0 : Hid (RdC w (.slice av ls.length cv) (stC ls)) := h
  obtain ⟨nv, hnv⟩ : ∃ n : Nat, n = ls.length := ⟨_, rfl⟩
  rw [← hnv] at HR0 ⊢
  clear hT hls hx h hnv
  go_enter Tryz.func72, Tryz.ntmps72
  go_wp2_with (refine wpList_alloc_blk rfl 22 rfl [.bool false, .bool false] (alloc_bb _) ?_)
  intro w1 r1 b1 s1
  go_wp2_with (refine wpList_alloc_blk rfl 22 rfl [.bool false, .bool false] (alloc_bb _) ?_)
  intro w2 r4 b2 s2
  have r2 := r1.kept b2
  have hbx := stepB b1 b2
  obtain ⟨g2, hg2⟩ : ∃ g : Nat, g = w.heap.size := ⟨_, rfl⟩
  obtain ⟨g4, hg4⟩ : ∃ g : Nat, g = w1.heap.size := ⟨_, rfl⟩
  have hne : g2 ≠ g4 := by have := r1.lt; omega
  have hge4 : w.heap.size ≤ g4 := by have := b1.size; omega
  have hge2 : w.heap.size ≤ g2 := by omega
  rw [← hg2] at r2 ⊢
  rw [← hg4] at r4 ⊢
  have HT2 := HT.out.kept hbx
  have hrg := range_two HT2.ar0 (show w2.cell? ⟨1, 0 + 1, none⟩ = _ from HT2.ar1)
  have hR0 : RdC w2 (.slice av nv cv) (stC (kfL ls 0)) := HR0.out.kept hbx
  clear r1 b1 b2 s1 s2 hg2 hg4 HT2 HR0
  go_wp2_with (refine wpList_load_mid rfl 93 _ rfl 1 0 rfl [.string ⟨#[45, 62]⟩, .string ⟨#[60, 45]⟩] _ hrg Tryz.underlying93 rfl infoAr ?_)
  clear hrg
  go_loopw [0, 8] (fun lv iv wx => ∃ i : Nat, i ≤ 2 ∧ iv = .int .i64 (i : Int) ∧ RdC wx lv (stC (kfL ls i)) ∧ BlkAt g2 22 [.bool false, .bool false] wx ∧ BlkAt g4 22 [.bool (kfI ls i), .bool (kfR ls i)] wx ∧ Below w.heap.size w wx) (fun _ iv _ => 2 - (intOf iv).toNat)
  case atStart => exact ⟨0, by omega, rfl, hR0, r2, r4, hbx⟩
  case round =>
    clear hR0 r2 r4 hbx
    obtain ⟨i, hi, rfl, hR, r2, r4, hbx⟩ := hrel
    have hi3 : i = 0 ∨ i = 1 ∨ i = 2 := by omega
    rcases hi3 with rfl | rfl | rfl
    · have ix := fun w => idx_ar0 ⟨#[45, 62]⟩ ⟨#[60, 45]⟩ w
      obtain ⟨LS, hLS⟩ : ∃ L : List (List UInt8), L = kfL ls 0 := ⟨_, rfl⟩
      have HLS : Hid (LS = kfL ls 0) := hLS
      have hRk : RdC wr u0 (stC LS) := by rw [hLS]; exact hR
      obtain ⟨a, c, rfl, h1, h2, h3⟩ := st_len hRk
      obtain ⟨n, hn⟩ : ∃ n : Nat, n = LS.length := ⟨_, rfl⟩
      have HN : Hid (n = LS.length) := hn
      rw [← hn] at h1 hRk ⊢
      have HR : Hid (RdC wr (.slice a n c) (stC LS)) := hRk
      have HRl : Hid (LS.length ≤ 4097 ∧ ∀ x ∈ LS, x.length ≤ 4096) := by rw [hLS]; exact HLs.out
      clear hLS hn hR hRk
      by_cases h0 : 0 < n
      · have d1 : decide ((0 : Int) < (n : Int)) = true := decide_eq_true (by omega)
        have d2 : (0 : Int) < (n : Int) := by omega
        have HIn : Hid (0 < LS.length) := by show _ < _; rw [← HN.out]; exact h0
        obtain ⟨b, off, rfl, g1⟩ := st_at HR.out HIn.out
        have g1' : wr.cell? ⟨b, off, none⟩ = some (.string ⟨(LS.getD 0 []).toArray⟩) := g1
        obtain ⟨x, hx⟩ : ∃ x : List UInt8, x = LS.getD 0 [] := ⟨_, rfl⟩
        rw [← hx] at g1'
        have HXe : Hid (x = LS.getD 0 []) := hx
        have HC : Hid (∀ W : World, TkT W → Calls Tryz.prog 90 #[.string ⟨x.toArray⟩, .string ⟨#[45, 62]⟩] W fun e w' => e = .returned (.bool (tlB true x)) ∧ Below W.heap.size W w') := fun W hW => tellsKnown_any true x (HRl.out.2 x (by rw [hx]; have := HIn.out; simp [this])) _ rfl W hW
        generalize (⟨x.toArray⟩ : ByteArray) = XB at g1' HC
        have hcI : (n : Int) ≤ (c : Int) := by omega
        clear hx g1
        go_wp2_with fail
        refine (HC.out _ (HT.out.kept hbx)).mono ?_
        rintro e w4 ⟨rfl, b4⟩
        obtain ⟨z, hz⟩ : ∃ z : Bool, z = tlB true x := ⟨_, rfl⟩
        rw [← hz]
        have HZ : Hid (kfS true LS = z) := by
          show _ = _
          unfold kfS
          rw [decide_eq_true HIn.out, ← HXe.out, ← hz]
          rfl
        replace r2 := r2.kept b4
        replace r4 := r4.kept b4
        have HR4 : Hid (RdC w4 (.slice (some ⟨b, off, none⟩) n c) (stC LS)) := HR.out.kept b4
        have hbx4 := stepB hbx b4
        clear hz b4 HC g1'
        cases z with
        | true =>
          have HL2 : Hid (LS.drop 1 = kfL ls 1) := by show _ = _; rw [show kfL ls 1 = kfT true (kfL ls 0) from rfl, ← HLS.out]; unfold kfT; rw [HZ.out]; rfl
          have HK2 : Hid (true = kfS true (kfL ls 0)) := by show _ = _; rw [← HLS.out, HZ.out]
          obtain ⟨a', hrun, hrd⟩ := tailS (ab := some ⟨b, off, none⟩) (L := n) (cb := c) (m := 1) (by omega) h1 h2 (by intro h; cases h)
          have f4 := r4.free 0
          have c4 : w4.cell? ⟨g4, 0, none⟩ = some (.bool false) := r4.cell 0
          have HR5 : Hid (∀ W, Below w4.heap.size w4 W → RdC W (.slice a' (n - 1) (c - 1)) (stC (kfL ls 1))) := by
            show ∀ W, _
            intro W hW
            have := hrd W _ (HR4.out.kept hW)
            rw [show (stC LS).drop 1 = stC (LS.drop 1) by simp [stC, List.map_drop], HL2.out] at this
            exact this
          have HS : Hid (BlkAt g4 22 [.bool (kfS true (kfL ls 0)), .bool false] (w4.setCell ⟨g4, 0, none⟩ (.bool true)) ∧ Wrote g4 w4 (w4.setCell ⟨g4, 0, none⟩ (.bool true))) := ⟨by rw [← HK2.out]; exact r4.set 0 (.bool true), Wrote.set g4 0 w4 (.bool true)⟩
          have hLb : g4 < w4.heap.size := r4.lt
          go_wp2_with (refine wpList_valP rfl (hrun (.tmp 24) (.const (.int .i64 1)) rfl rfl rfl) ?_)
          have hr5 : RdC (w4.setCell ⟨g4, 0, none⟩ (.bool true)) (.slice a' (n - 1) (c - 1)) (stC (kfL ls 1)) := rdC_wrote (HR5.out w4 (Below.refl _ _)) HS.out.2 r4
          have r2' := r2.wrote HS.out.2 hne
          have r4' := HS.out.1
          have hb5 := HS.out.2.below _ _ hge4 hbx4
          clear r2 r4 f4 c4 HR4 HR5 HS hrd hbx4 hbx
          go_wp2
          go_roundw
          case rel => exact ⟨1, by omega, by go_num, hr5, r2', r4', hb5⟩
          case measure => simp [intOf]
        | false =>
          have HL2 : Hid (LS = kfL ls 1) := by show _ = _; rw [show kfL ls 1 = kfT true (kfL ls 0) from rfl, ← HLS.out]; unfold kfT; rw [HZ.out]; rfl
          have HK2 : Hid (false = kfS true (kfL ls 0)) := by show _ = _; rw [← HLS.out, HZ.out]
          have hr5 : RdC w4 (.slice (some ⟨b, off, none⟩) n c) (stC (kfL ls 1)) := by rw [← HL2.out]; exact HR4.out
          have r4' : BlkAt g4 22 [.bool (kfS true (kfL ls 0)), .bool false] w4 := by rw [← HK2.out]; exact r4
          clear HR4 r4 hbx
          go_wp2
          go_roundw
          case rel => exact ⟨1, by omega, by go_num, hr5, r2, r4', hbx4⟩
          case measure => simp [intOf]
      · have d1 : decide ((0 : Int) < (n : Int)) = false := decide_eq_false (by omega)
        have d2 : (n : Int) ≤ 0 := by omega
        have HZ : Hid (kfS true LS = false) := by
          show _ = _
          unfold kfS
          rw [decide_eq_false (by rw [← HN.out]; omega)]
          rfl
        have HL2 : Hid (LS = kfL ls 1) := by show _ = _; rw [show kfL ls 1 = kfT true (kfL ls 0) from rfl, ← HLS.out]; unfold kfT; rw [HZ.out]; rfl
        have HK2 : Hid (false = kfS true (kfL ls 0)) := by show _ = _; rw [← HLS.out, HZ.out]
        have hr5 : RdC wr (.slice a n c) (stC (kfL ls 1)) := by rw [← HL2.out]; exact HR.out
        have r4' : BlkAt g4 22 [.bool (kfS true (kfL ls 0)), .bool false] wr := by rw [← HK2.out]; exact r4
        clear HR r4
        go_wp2
        go_roundw
        case rel => exact ⟨1, by omega, by go_num, hr5, r2, r4', hbx⟩
        case measure => simp [intOf]
    · have ix := fun w => idx_ar1 ⟨#[45, 62]⟩ ⟨#[60, 45]⟩ w
      obtain ⟨LS, hLS⟩ : ∃ L : List (List UInt8), L = kfL ls 1 := ⟨_, rfl⟩
      have HLS : Hid (LS = kfL ls 1) := hLS
      have hRk : RdC wr u0 (stC LS) := by rw [hLS]; exact hR
      obtain ⟨a, c, rfl, h1, h2, h3⟩ := st_len hRk
      obtain ⟨n, hn⟩ : ∃ n : Nat, n = LS.length := ⟨_, rfl⟩
      have HN : Hid (n = LS.length) := hn
      rw [← hn] at h1 hRk ⊢
      have HR : Hid (RdC wr (.slice a n c) (stC LS)) := hRk
      have HRl : Hid (LS.length ≤ 4097 ∧ ∀ x ∈ LS, x.length ≤ 4096) := by rw [hLS]; exact kfT_sub true ls HLs.out
      clear hLS hn hR hRk
      by_cases h0 : 0 < n
      · have d1 : decide ((0 : Int) < (n : Int)) = true := decide_eq_true (by omega)
        have d2 : (0 : Int) < (n : Int) := by omega
        have HIn : Hid (0 < LS.length) := by show _ < _; rw [← HN.out]; exact h0
        obtain ⟨b, off, rfl, g1⟩ := st_at HR.out HIn.out
        have g1' : wr.cell? ⟨b, off, none⟩ = some (.string ⟨(LS.getD 0 []).toArray⟩) := g1
        obtain ⟨x, hx⟩ : ∃ x : List UInt8, x = LS.getD 0 [] := ⟨_, rfl⟩
        rw [← hx] at g1'
        have HXe : Hid (x = LS.getD 0 []) := hx
        have HC : Hid (∀ W : World, TkT W → Calls Tryz.prog 90 #[.string ⟨x.toArray⟩, .string ⟨#[60, 45]⟩] W fun e w' => e = .returned (.bool (tlB false x)) ∧ Below W.heap.size W w') := fun W hW => tellsKnown_any false x (HRl.out.2 x (by rw [hx]; have := HIn.out; simp [this])) _ rfl W hW
        generalize (⟨x.toArray⟩ : ByteArray) = XB at g1' HC
        have hcI : (n : Int) ≤ (c : Int) := by omega
        clear hx g1
        go_wp2_with fail
        refine (HC.out _ (HT.out.kept hbx)).mono ?_
        rintro e w4 ⟨rfl, b4⟩
        obtain ⟨z, hz⟩ : ∃ z : Bool, z = tlB false x := ⟨_, rfl⟩
        rw [← hz]
        have HZ : Hid (kfS false LS = z) := by
          show _ = _
          unfold kfS
          rw [decide_eq_true HIn.out, ← HXe.out, ← hz]
          rfl
        replace r2 := r2.kept b4
        replace r4 := r4.kept b4
        have HR4 : Hid (RdC w4 (.slice (some ⟨b, off, none⟩) n c) (stC LS)) := HR.out.kept b4
        have hbx4 := stepB hbx b4
        clear hz b4 HC g1'
        cases z with
        | true =>
          have HL2 : Hid (LS.drop 1 = kfL ls 2) := by show _ = _; rw [show kfL ls 2 = kfT false (kfL ls 1) from rfl, ← HLS.out]; unfold kfT; rw [HZ.out]; rfl
          have HK2 : Hid (true = kfS false (kfL ls 1)) := by show _ = _; rw [← HLS.out, HZ.out]
          obtain ⟨a', hrun, hrd⟩ := tailS (ab := some ⟨b, off, none⟩) (L := n) (cb := c) (m := 1) (by omega) h1 h2 (by intro h; cases h)
          have f4 := r4.free 1
          have c4 : w4.cell? ⟨g4, 1, none⟩ = some (.bool false) := r4.cell 1
          have HR5 : Hid (∀ W, Below w4.heap.size w4 W → RdC W (.slice a' (n - 1) (c - 1)) (stC (kfL ls 2))) := by
            show ∀ W, _
            intro W hW
            have := hrd W _ (HR4.out.kept hW)
            rw [show (stC LS).drop 1 = stC (LS.drop 1) by simp [stC, List.map_drop], HL2.out] at this
            exact this
          have HS : Hid (BlkAt g4 22 [.bool (kfI ls 1), .bool (kfS false (kfL ls 1))] (w4.setCell ⟨g4, 1, none⟩ (.bool true)) ∧ Wrote g4 w4 (w4.setCell ⟨g4, 1, none⟩ (.bool true))) := ⟨by rw [← HK2.out]; exact r4.set 1 (.bool true), Wrote.set g4 1 w4 (.bool true)⟩
          have hLb : g4 < w4.heap.size := r4.lt
          go_wp2_with (refine wpList_valP rfl (hrun (.tmp 24) (.const (.int .i64 1)) rfl rfl rfl) ?_)
          have hr5 : RdC (w4.setCell ⟨g4, 1, none⟩ (.bool true)) (.slice a' (n - 1) (c - 1)) (stC (kfL ls 2)) := rdC_wrote (HR5.out w4 (Below.refl _ _)) HS.out.2 r4
          have r2' := r2.wrote HS.out.2 hne
          have r4' := HS.out.1
          have hb5 := HS.out.2.below _ _ hge4 hbx4
          clear r2 r4 f4 c4 HR4 HR5 HS hrd hbx4 hbx
          go_wp2
          go_roundw
          case rel => exact ⟨2, by omega, by go_num, hr5, r2', r4', hb5⟩
          case measure => simp [intOf]
        | false =>
          have HL2 : Hid (LS = kfL ls 2) := by show _ = _; rw [show kfL ls 2 = kfT false (kfL ls 1) from rfl, ← HLS.out]; unfold kfT; rw [HZ.out]; rfl
          have HK2 : Hid (false = kfS false (kfL ls 1)) := by show _ = _; rw [← HLS.out, HZ.out]
          have hr5 : RdC w4 (.slice (some ⟨b, off, none⟩) n c) (stC (kfL ls 2)) := by rw [← HL2.out]; exact HR4.out
          have r4' : BlkAt g4 22 [.bool (kfI ls 1), .bool (kfS false (kfL ls 1))] w4 := by rw [← HK2.out]; exact r4
          clear HR4 r4 hbx
          go_wp2
          go_roundw
          case rel => exact ⟨2, by omega, by go_num, hr5, r2, r4', hbx4⟩
          case measure => simp [intOf]
      · have d1 : decide ((0 : Int) < (n : Int)) = false := decide_eq_false (by omega)
        have d2 : (n : Int) ≤ 0 := by omega
        have HZ : Hid (kfS false LS = false) := by
          show _ = _
          unfold kfS
          rw [decide_eq_false (by rw [← HN.out]; omega)]
          rfl
        have HL2 : Hid (LS = kfL ls 2) := by show _ = _; rw [show kfL ls 2 = kfT false (kfL ls 1) from rfl, ← HLS.out]; unfold kfT; rw [HZ.out]; rfl
        have HK2 : Hid (false = kfS false (kfL ls 1)) := by show _ = _; rw [← HLS.out, HZ.out]
        have hr5 : RdC wr (.slice a n c) (stC (kfL ls 2)) := by rw [← HL2.out]; exact HR.out
        have r4' : BlkAt g4 22 [.bool (kfI ls 1), .bool (kfS false (kfL ls 1))] wr := by rw [← HK2.out]; exact r4
        clear HR r4
        go_wp2
        go_roundw
        case rel => exact ⟨2, by omega, by go_num, hr5, r2, r4', hbx⟩
        case measure => simp [intOf]
    · have HKI : Hid (∃ kI, kI = kfI ls 2) := ⟨_, rfl⟩
      obtain ⟨kI, hkI⟩ := HKI.out
      obtain ⟨kR, hkR⟩ : ∃ b, b = kfR ls 2 := ⟨_, rfl⟩
      obtain ⟨LS, hLS⟩ : ∃ L : List (List UInt8), L = kfL ls 2 := ⟨_, rfl⟩
      have HB : Hid (kfB ls = ((kI || kR) && LS.isEmpty)) := by show _ = _; rw [hkI, hkR, hLS]; rfl
      have HKi : Hid (kI = kfI ls 2) := hkI
      have HKr : Hid (kR = kfR ls 2) := hkR
      rw [← hkI, ← hkR] at r4
      rw [← hLS] at hR
      obtain ⟨a, c, rfl, h1, h2, -⟩ := st_len hR
      obtain ⟨n, hn⟩ : ∃ n : Nat, n = LS.length := ⟨_, rfl⟩
      have HEm : Hid (((n : Int) == 0) = LS.isEmpty) := by
        show _ = _
        rw [hn]
        cases LS with
        | nil => rfl
        | cons x l => simp; omega
      rw [← hn] at h1 ⊢
      have HBx : Hid (Below w.heap.size w wr.drew) := hbx.drew
      replace r2 := r2.drew
      clear hkI hkR hLS hR hn hbx HKI
      cases kI <;> cases kR
      · have hS : BlkAt g4 22 [.bool false, .bool false] wr.drew := r4.drew
        have HB2 : Hid (kfB ls = false) := by show _ = _; rw [HB.out]; rfl
        obtain ⟨zz, hzz⟩ : ∃ b : Bool, ((n : Int) == 0) = b := ⟨_, rfl⟩
        skip
        clear r4
        go_wp2_with fail
        refine wpS_begin (fun W => BlkAt g4 22 [.bool false, .bool false] W) (by kernel_rfl) ?_
        refine wpS_take (hS := hS) (i := 0) (oi := { dst := some 27, op := Op.load 22 (Operand.tmp 4), type := 22, pos := "text.go:105", after := #[], guard := none }) (v := ?_) rfl (by kernel_rfl) (by kernel_rfl) (by kernel_rfl) (by rfl) ?_ ?_
        rotate_left
        · intro W hW; have h0 : W.cell? ⟨g4, 0, none⟩ = some (.bool false) := hW.cell 0; have h1 : W.cell? ⟨g4, 1, none⟩ = some (.bool false) := hW.cell 1; first | (go_simp; done) | (go_simp; with_reducible rfl)
        try simp only [Act.put, List.setIfInBounds_toArray, List.set_cons_zero, List.set_cons_succ]
        refine wpS_take (hS := hS) (i := 1) (oi := { dst := some 28, op := Op.load 22 (Operand.tmp 4), type := 22, pos := "text.go:105", after := #[], guard := none }) (v := ?_) rfl (by kernel_rfl) (by kernel_rfl) (by kernel_rfl) (by rfl) ?_ ?_
        rotate_left
        · intro W hW; have h0 : W.cell? ⟨g4, 0, none⟩ = some (.bool false) := hW.cell 0; have h1 : W.cell? ⟨g4, 1, none⟩ = some (.bool false) := hW.cell 1; first | (go_simp; done) | (go_simp; with_reducible rfl)
        try simp only [Act.put, List.setIfInBounds_toArray, List.set_cons_zero, List.set_cons_succ]
        refine wpS_take (hS := hS) (i := 2) (oi := { dst := some 29, op := Op.build 22 #[], type := 22, pos := "text.go:105", after := #[], guard := none }) (v := ?_) rfl (by kernel_rfl) (by kernel_rfl) (by kernel_rfl) (by rfl) ?_ ?_
        rotate_left
        · intro W hW; have hbb := build_bb W; first | (go_simp; done) | (go_simp; with_reducible rfl)
        try simp only [Act.put, List.setIfInBounds_toArray, List.set_cons_zero, List.set_cons_succ]
        refine wpS_take (hS := hS) (i := 3) (oi := { dst := some 30, op := Op.binOp BinOp.neq 22 (Operand.tmp 28) (Operand.tmp 29) 22, type := 4, pos := "text.go:105", after := #[{ on := 1, ground := Ground.data }, { on := 2, ground := Ground.data }], guard := none }) (v := ?_) rfl (by kernel_rfl) (by kernel_rfl) (by kernel_rfl) (by rfl) ?_ ?_
        rotate_left
        · intro W hW; have heq := eqBB false false W; first | (go_simp; done) | (go_simp; with_reducible rfl)
        try simp only [Act.put, List.setIfInBounds_toArray, List.set_cons_zero, List.set_cons_succ]
        refine wpS_take (hS := hS) (i := 4) (oi := { dst := some 31, op := Op.move (Operand.tmp 30), type := 4, pos := "text.go:105", after := #[{ on := 3, ground := Ground.data }], guard := none }) (v := ?_) rfl (by kernel_rfl) (by kernel_rfl) (by kernel_rfl) (by rfl) ?_ ?_
        rotate_left
        · intro W hW; first | (go_simp; done) | (go_simp; with_reducible rfl)
        try simp only [Act.put, List.setIfInBounds_toArray, List.set_cons_zero, List.set_cons_succ]
        refine wpS_skip (hS := hS) (i := 5) (oi := { dst := some 32, op := Op.move (Operand.tmp 0), type := 54, pos := "text.go:105", after := #[{ on := 4, ground := Ground.guard }], guard := some (4, true) }) rfl (by kernel_rfl) (by kernel_rfl) (by kernel_rfl) (by rfl) ?_
        try simp only [Act.put, List.setIfInBounds_toArray, List.set_cons_zero, List.set_cons_succ]
        refine wpS_skip (hS := hS) (i := 6) (oi := { dst := some 33, op := Op.call { callee := Callee.builtin Builtin.len, args := #[Operand.tmp 32], argTypes := #[54] }, type := 3, pos := "text.go:105", after := #[{ on := 5, ground := Ground.data }, { on := 4, ground := Ground.guard }], guard := some (4, true) }) rfl (by kernel_rfl) (by kernel_rfl) (by kernel_rfl) (by rfl) ?_
        try simp only [Act.put, List.setIfInBounds_toArray, List.set_cons_zero, List.set_cons_succ]
        refine wpS_skip (hS := hS) (i := 7) (oi := { dst := some 34, op := Op.binOp BinOp.eql 3 (Operand.tmp 33) (Operand.const (Value.int IntKind.i64 0)) 3, type := 4, pos := "text.go:105", after := #[{ on := 6, ground := Ground.data }, { on := 4, ground := Ground.guard }, { on := 9, ground := Ground.gcOnly Departure.lateStores }], guard := some (4, true) }) rfl (by kernel_rfl) (by kernel_rfl) (by kernel_rfl) (by rfl) ?_
        try simp only [Act.put, List.setIfInBounds_toArray, List.set_cons_zero, List.set_cons_succ]
        refine wpS_take (hS := hS) (i := 8) (oi := { dst := some 35, op := Op.pick (Operand.tmp 31) (Operand.tmp 34) (Operand.const (Value.bool false)), type := 4, pos := "text.go:105", after := #[{ on := 4, ground := Ground.data }, { on := 7, ground := Ground.data }, { on := 9, ground := Ground.gcOnly Departure.lateStores }], guard := none }) (v := ?_) rfl (by kernel_rfl) (by kernel_rfl) (by kernel_rfl) (by rfl) ?_ ?_
        rotate_left
        · intro W hW; first | (go_simp; done) | (go_simp; with_reducible rfl)
        try simp only [Act.put, List.setIfInBounds_toArray, List.set_cons_zero, List.set_cons_succ]
        refine wpS_do (i := 9) (o := { dst := none, op := Op.store 22 (Operand.tmp 2) (Operand.tmp 27), type := 0, pos := "text.go:105", after := #[{ on := 0, ground := Ground.data }, { on := 4, ground := Ground.chain }, { on := 0, ground := Ground.phase }, { on := 1, ground := Ground.textOnly Departure.lateStores }, { on := 2, ground := Ground.textOnly Departure.lateStores }, { on := 3, ground := Ground.textOnly Departure.lateStores }, { on := 4, ground := Ground.textOnly Departure.lateStores }, { on := 5, ground := Ground.textOnly Departure.lateStores }, { on := 6, ground := Ground.textOnly Departure.lateStoresUnsure }, { on := 7, ground := Ground.textOnly Departure.lateStores }, { on := 8, ground := Ground.textOnly Departure.lateStores }], guard := none }) (by kernel_rfl) rfl (by rfl) fun K hK => ?_
        refine wp_store_part 22 _ _ rfl rfl [.bool false, .bool false] rfl [] [.bool false, .bool false] [] [.bool false, .bool false] r2 rfl rfl rfl rfl info2b (oneBB _ _) ?_
        intro w5 r5 hw5
        replace hS := hS.wrote hw5 (Ne.symm hne)
        refine hK.out _ _ hS ?_
        clear hK K
        try simp only [Act.put, List.setIfInBounds_toArray, List.set_cons_zero, List.set_cons_succ]
        refine wpS_take (hS := hS) (i := 10) (oi := { dst := some 3, op := Op.assign (Operand.tmp 35), type := 4, pos := "text.go:105", after := #[{ on := 8, ground := Ground.data }, { on := 9, ground := Ground.chain }, { on := 0, ground := Ground.phase }, { on := 1, ground := Ground.phase }, { on := 2, ground := Ground.phase }, { on := 3, ground := Ground.phase }, { on := 4, ground := Ground.phase }, { on := 5, ground := Ground.phase }, { on := 6, ground := Ground.phase }, { on := 7, ground := Ground.phase }, { on := 8, ground := Ground.phase }, { on := 9, ground := Ground.phase }], guard := none }) (v := ?_) rfl (by kernel_rfl) (by kernel_rfl) (by kernel_rfl) (by rfl) ?_ ?_
        rotate_left
        · intro W hW; first | (go_simp; done) | (go_simp; with_reducible rfl)
        try simp only [Act.put, List.setIfInBounds_toArray, List.set_cons_zero, List.set_cons_succ]
        refine wpS_done (by kernel_rfl) ?_
        have HB5 : Hid (Below w.heap.size w w5) := hw5.below _ _ hge2 HBx.out
        go_wp2
        refine bodyPost_blk2 rfl rfl rfl rfl r5 Tryz.underlying22 rfl info2b ?_
        exact ⟨by rw [← HKi.out, ← HKr.out, HB2.out]; rfl, HB5.out⟩
      · have hS : BlkAt g4 22 [.bool false, .bool true] wr.drew := r4.drew
        have HB2 : Hid (kfB ls = ((n : Int) == 0)) := by show _ = _; rw [HB.out, HEm.out]; rfl
        obtain ⟨zz, hzz⟩ : ∃ b : Bool, ((n : Int) == 0) = b := ⟨_, rfl⟩
        rw [hzz] at HB2
        clear r4
        go_wp2_with fail
        refine wpS_begin (fun W => BlkAt g4 22 [.bool false, .bool true] W) (by kernel_rfl) ?_
        refine wpS_take (hS := hS) (i := 0) (oi := { dst := some 27, op := Op.load 22 (Operand.tmp 4), type := 22, pos := "text.go:105", after := #[], guard := none }) (v := ?_) rfl (by kernel_rfl) (by kernel_rfl) (by kernel_rfl) (by rfl) ?_ ?_
        rotate_left
        · intro W hW; have h0 : W.cell? ⟨g4, 0, none⟩ = some (.bool false) := hW.cell 0; have h1 : W.cell? ⟨g4, 1, none⟩ = some (.bool true) := hW.cell 1; first | (go_simp; done) | (go_simp; with_reducible rfl)
        try simp only [Act.put, List.setIfInBounds_toArray, List.set_cons_zero, List.set_cons_succ]
        refine wpS_take (hS := hS) (i := 1) (oi := { dst := some 28, op := Op.load 22 (Operand.tmp 4), type := 22, pos := "text.go:105", after := #[], guard := none }) (v := ?_) rfl (by kernel_rfl) (by kernel_rfl) (by kernel_rfl) (by rfl) ?_ ?_
        rotate_left
        · intro W hW; have h0 : W.cell? ⟨g4, 0, none⟩ = some (.bool false) := hW.cell 0; have h1 : W.cell? ⟨g4, 1, none⟩ = some (.bool true) := hW.cell 1; first | (go_simp; done) | (go_simp; with_reducible rfl)
        try simp only [Act.put, List.setIfInBounds_toArray, List.set_cons_zero, List.set_cons_succ]
        refine wpS_take (hS := hS) (i := 2) (oi := { dst := some 29, op := Op.build 22 #[], type := 22, pos := "text.go:105", after := #[], guard := none }) (v := ?_) rfl (by kernel_rfl) (by kernel_rfl) (by kernel_rfl) (by rfl) ?_ ?_
        rotate_left
        · intro W hW; have hbb := build_bb W; first | (go_simp; done) | (go_simp; with_reducible rfl)
        try simp only [Act.put, List.setIfInBounds_toArray, List.set_cons_zero, List.set_cons_succ]
        refine wpS_take (hS := hS) (i := 3) (oi := { dst := some 30, op := Op.binOp BinOp.neq 22 (Operand.tmp 28) (Operand.tmp 29) 22, type := 4, pos := "text.go:105", after := #[{ on := 1, ground := Ground.data }, { on := 2, ground := Ground.data }], guard := none }) (v := ?_) rfl (by kernel_rfl) (by kernel_rfl) (by kernel_rfl) (by rfl) ?_ ?_
        rotate_left
        · intro W hW; have heq := eqBB false true W; first | (go_simp; done) | (go_simp; with_reducible rfl)
        try simp only [Act.put, List.setIfInBounds_toArray, List.set_cons_zero, List.set_cons_succ]
        refine wpS_take (hS := hS) (i := 4) (oi := { dst := some 31, op := Op.move (Operand.tmp 30), type := 4, pos := "text.go:105", after := #[{ on := 3, ground := Ground.data }], guard := none }) (v := ?_) rfl (by kernel_rfl) (by kernel_rfl) (by kernel_rfl) (by rfl) ?_ ?_
        rotate_left
        · intro W hW; first | (go_simp; done) | (go_simp; with_reducible rfl)
        try simp only [Act.put, List.setIfInBounds_toArray, List.set_cons_zero, List.set_cons_succ]
        refine wpS_take (hS := hS) (i := 5) (oi := { dst := some 32, op := Op.move (Operand.tmp 0), type := 54, pos := "text.go:105", after := #[{ on := 4, ground := Ground.guard }], guard := some (4, true) }) (v := ?_) rfl (by kernel_rfl) (by kernel_rfl) (by kernel_rfl) (by rfl) ?_ ?_
        rotate_left
        · intro W hW; first | (go_simp; done) | (go_simp; with_reducible rfl)
        try simp only [Act.put, List.setIfInBounds_toArray, List.set_cons_zero, List.set_cons_succ]
        refine wpS_take (hS := hS) (i := 6) (oi := { dst := some 33, op := Op.call { callee := Callee.builtin Builtin.len, args := #[Operand.tmp 32], argTypes := #[54] }, type := 3, pos := "text.go:105", after := #[{ on := 5, ground := Ground.data }, { on := 4, ground := Ground.guard }], guard := some (4, true) }) (v := ?_) rfl (by kernel_rfl) (by kernel_rfl) (by kernel_rfl) (by rfl) ?_ ?_
        rotate_left
        · intro W hW; first | (go_simp; done) | (go_simp; with_reducible rfl)
        try simp only [Act.put, List.setIfInBounds_toArray, List.set_cons_zero, List.set_cons_succ]
        refine wpS_take (hS := hS) (i := 7) (oi := { dst := some 34, op := Op.binOp BinOp.eql 3 (Operand.tmp 33) (Operand.const (Value.int IntKind.i64 0)) 3, type := 4, pos := "text.go:105", after := #[{ on := 6, ground := Ground.data }, { on := 4, ground := Ground.guard }, { on := 9, ground := Ground.gcOnly Departure.lateStores }], guard := some (4, true) }) (v := ?_) rfl (by kernel_rfl) (by kernel_rfl) (by kernel_rfl) (by rfl) ?_ ?_
        rotate_left
        · intro W hW; first | (go_simp; done) | (go_simp; with_reducible rfl)
        try simp only [Act.put, List.setIfInBounds_toArray, List.set_cons_zero, List.set_cons_succ]
        refine wpS_take (hS := hS) (i := 8) (oi := { dst := some 35, op := Op.pick (Operand.tmp 31) (Operand.tmp 34) (Operand.const (Value.bool false)), type := 4, pos := "text.go:105", after := #[{ on := 4, ground := Ground.data }, { on := 7, ground := Ground.data }, { on := 9, ground := Ground.gcOnly Departure.lateStores }], guard := none }) (v := ?_) rfl (by kernel_rfl) (by kernel_rfl) (by kernel_rfl) (by rfl) ?_ ?_
        rotate_left
        · intro W hW; first | (go_simp; done) | (go_simp; with_reducible rfl)
        try simp only [Act.put, List.setIfInBounds_toArray, List.set_cons_zero, List.set_cons_succ]
        refine wpS_do (i := 9) (o := { dst := none, op := Op.store 22 (Operand.tmp 2) (Operand.tmp 27), type := 0, pos := "text.go:105", after := #[{ on := 0, ground := Ground.data }, { on := 4, ground := Ground.chain }, { on := 0, ground := Ground.phase }, { on := 1, ground := Ground.textOnly Departure.lateStores }, { on := 2, ground := Ground.textOnly Departure.lateStores }, { on := 3, ground := Ground.textOnly Departure.lateStores }, { on := 4, ground := Ground.textOnly Departure.lateStores }, { on := 5, ground := Ground.textOnly Departure.lateStores }, { on := 6, ground := Ground.textOnly Departure.lateStoresUnsure }, { on := 7, ground := Ground.textOnly Departure.lateStores }, { on := 8, ground := Ground.textOnly Departure.lateStores }], guard := none }) (by kernel_rfl) rfl (by rfl) fun K hK => ?_
        refine wp_store_part 22 _ _ rfl rfl [.bool false, .bool true] rfl [] [.bool false, .bool false] [] [.bool false, .bool true] r2 rfl rfl rfl rfl info2b (oneBB _ _) ?_
        intro w5 r5 hw5
        replace hS := hS.wrote hw5 (Ne.symm hne)
        refine hK.out _ _ hS ?_
        clear hK K
        try simp only [Act.put, List.setIfInBounds_toArray, List.set_cons_zero, List.set_cons_succ]
        refine wpS_take (hS := hS) (i := 10) (oi := { dst := some 3, op := Op.assign (Operand.tmp 35), type := 4, pos := "text.go:105", after := #[{ on := 8, ground := Ground.data }, { on := 9, ground := Ground.chain }, { on := 0, ground := Ground.phase }, { on := 1, ground := Ground.phase }, { on := 2, ground := Ground.phase }, { on := 3, ground := Ground.phase }, { on := 4, ground := Ground.phase }, { on := 5, ground := Ground.phase }, { on := 6, ground := Ground.phase }, { on := 7, ground := Ground.phase }, { on := 8, ground := Ground.phase }, { on := 9, ground := Ground.phase }], guard := none }) (v := ?_) rfl (by kernel_rfl) (by kernel_rfl) (by kernel_rfl) (by rfl) ?_ ?_
        rotate_left
        · intro W hW; first | (go_simp; done) | (go_simp; with_reducible rfl)
        try simp only [Act.put, List.setIfInBounds_toArray, List.set_cons_zero, List.set_cons_succ]
        refine wpS_done (by kernel_rfl) ?_
        have HB5 : Hid (Below w.heap.size w w5) := hw5.below _ _ hge2 HBx.out
        go_wp2
        refine bodyPost_blk2 rfl rfl rfl rfl r5 Tryz.underlying22 rfl info2b ?_
        exact ⟨by rw [← HKi.out, ← HKr.out, HB2.out]; rfl, HB5.out⟩
      · have hS : BlkAt g4 22 [.bool true, .bool false] wr.drew := r4.drew
        have HB2 : Hid (kfB ls = ((n : Int) == 0)) := by show _ = _; rw [HB.out, HEm.out]; rfl
        obtain ⟨zz, hzz⟩ : ∃ b : Bool, ((n : Int) == 0) = b := ⟨_, rfl⟩
        rw [hzz] at HB2
        clear r4
        go_wp2_with fail
        refine wpS_begin (fun W => BlkAt g4 22 [.bool true, .bool false] W) (by kernel_rfl) ?_
        refine wpS_take (hS := hS) (i := 0) (oi := { dst := some 27, op := Op.load 22 (Operand.tmp 4), type := 22, pos := "text.go:105", after := #[], guard := none }) (v := ?_) rfl (by kernel_rfl) (by kernel_rfl) (by kernel_rfl) (by rfl) ?_ ?_
        rotate_left
        · intro W hW; have h0 : W.cell? ⟨g4, 0, none⟩ = some (.bool true) := hW.cell 0; have h1 : W.cell? ⟨g4, 1, none⟩ = some (.bool false) := hW.cell 1; first | (go_simp; done) | (go_simp; with_reducible rfl)
        try simp only [Act.put, List.setIfInBounds_toArray, List.set_cons_zero, List.set_cons_succ]
        refine wpS_take (hS := hS) (i := 1) (oi := { dst := some 28, op := Op.load 22 (Operand.tmp 4), type := 22, pos := "text.go:105", after := #[], guard := none }) (v := ?_) rfl (by kernel_rfl) (by kernel_rfl) (by kernel_rfl) (by rfl) ?_ ?_
        rotate_left
        · intro W hW; have h0 : W.cell? ⟨g4, 0, none⟩ = some (.bool true) := hW.cell 0; have h1 : W.cell? ⟨g4, 1, none⟩ = some (.bool false) := hW.cell 1; first | (go_simp; done) | (go_simp; with_reducible rfl)
        try simp only [Act.put, List.setIfInBounds_toArray, List.set_cons_zero, List.set_cons_succ]
        refine wpS_take (hS := hS) (i := 2) (oi := { dst := some 29, op := Op.build 22 #[], type := 22, pos := "text.go:105", after := #[], guard := none }) (v := ?_) rfl (by kernel_rfl) (by kernel_rfl) (by kernel_rfl) (by rfl) ?_ ?_
        rotate_left
        · intro W hW; have hbb := build_bb W; first | (go_simp; done) | (go_simp; with_reducible rfl)
        try simp only [Act.put, List.setIfInBounds_toArray, List.set_cons_zero, List.set_cons_succ]
        refine wpS_take (hS := hS) (i := 3) (oi := { dst := some 30, op := Op.binOp BinOp.neq 22 (Operand.tmp 28) (Operand.tmp 29) 22, type := 4, pos := "text.go:105", after := #[{ on := 1, ground := Ground.data }, { on := 2, ground := Ground.data }], guard := none }) (v := ?_) rfl (by kernel_rfl) (by kernel_rfl) (by kernel_rfl) (by rfl) ?_ ?_
        rotate_left
        · intro W hW; have heq := eqBB true false W; first | (go_simp; done) | (go_simp; with_reducible rfl)
        try simp only [Act.put, List.setIfInBounds_toArray, List.set_cons_zero, List.set_cons_succ]
        refine wpS_take (hS := hS) (i := 4) (oi := { dst := some 31, op := Op.move (Operand.tmp 30), type := 4, pos := "text.go:105", after := #[{ on := 3, ground := Ground.data }], guard := none }) (v := ?_) rfl (by kernel_rfl) (by kernel_rfl) (by kernel_rfl) (by rfl) ?_ ?_
        rotate_left
        · intro W hW; first | (go_simp; done) | (go_simp; with_reducible rfl)
        try simp only [Act.put, List.setIfInBounds_toArray, List.set_cons_zero, List.set_cons_succ]
        refine wpS_take (hS := hS) (i := 5) (oi := { dst := some 32, op := Op.move (Operand.tmp 0), type := 54, pos := "text.go:105", after := #[{ on := 4, ground := Ground.guard }], guard := some (4, true) }) (v := ?_) rfl (by kernel_rfl) (by kernel_rfl) (by kernel_rfl) (by rfl) ?_ ?_
        rotate_left
        · intro W hW; first | (go_simp; done) | (go_simp; with_reducible rfl)
        try simp only [Act.put, List.setIfInBounds_toArray, List.set_cons_zero, List.set_cons_succ]
        refine wpS_take (hS := hS) (i := 6) (oi := { dst := some 33, op := Op.call { callee := Callee.builtin Builtin.len, args := #[Operand.tmp 32], argTypes := #[54] }, type := 3, pos := "text.go:105", after := #[{ on := 5, ground := Ground.data }, { on := 4, ground := Ground.guard }], guard := some (4, true) }) (v := ?_) rfl (by kernel_rfl) (by kernel_rfl) (by kernel_rfl) (by rfl) ?_ ?_
        rotate_left
        · intro W hW; first | (go_simp; done) | (go_simp; with_reducible rfl)
        try simp only [Act.put, List.setIfInBounds_toArray, List.set_cons_zero, List.set_cons_succ]
        refine wpS_take (hS := hS) (i := 7) (oi := { dst := some 34, op := Op.binOp BinOp.eql 3 (Operand.tmp 33) (Operand.const (Value.int IntKind.i64 0)) 3, type := 4, pos := "text.go:105", after := #[{ on := 6, ground := Ground.data }, { on := 4, ground := Ground.guard }, { on := 9, ground := Ground.gcOnly Departure.lateStores }], guard := some (4, true) }) (v := ?_) rfl (by kernel_rfl) (by kernel_rfl) (by kernel_rfl) (by rfl) ?_ ?_
        rotate_left
        · intro W hW; first | (go_simp; done) | (go_simp; with_reducible rfl)
        try simp only [Act.put, List.setIfInBounds_toArray, List.set_cons_zero, List.set_cons_succ]
        refine wpS_take (hS := hS) (i := 8) (oi := { dst := some 35, op := Op.pick (Operand.tmp 31) (Operand.tmp 34) (Operand.const (Value.bool false)), type := 4, pos := "text.go:105", after := #[{ on := 4, ground := Ground.data }, { on := 7, ground := Ground.data }, { on := 9, ground := Ground.gcOnly Departure.lateStores }], guard := none }) (v := ?_) rfl (by kernel_rfl) (by kernel_rfl) (by kernel_rfl) (by rfl) ?_ ?_
        rotate_left
        · intro W hW; first | (go_simp; done) | (go_simp; with_reducible rfl)
        try simp only [Act.put, List.setIfInBounds_toArray, List.set_cons_zero, List.set_cons_succ]
        refine wpS_do (i := 9) (o := { dst := none, op := Op.store 22 (Operand.tmp 2) (Operand.tmp 27), type := 0, pos := "text.go:105", after := #[{ on := 0, ground := Ground.data }, { on := 4, ground := Ground.chain }, { on := 0, ground := Ground.phase }, { on := 1, ground := Ground.textOnly Departure.lateStores }, { on := 2, ground := Ground.textOnly Departure.lateStores }, { on := 3, ground := Ground.textOnly Departure.lateStores }, { on := 4, ground := Ground.textOnly Departure.lateStores }, { on := 5, ground := Ground.textOnly Departure.lateStores }, { on := 6, ground := Ground.textOnly Departure.lateStoresUnsure }, { on := 7, ground := Ground.textOnly Departure.lateStores }, { on := 8, ground := Ground.textOnly Departure.lateStores }], guard := none }) (by kernel_rfl) rfl (by rfl) fun K hK => ?_
        refine wp_store_part 22 _ _ rfl rfl [.bool true, .bool false] rfl [] [.bool false, .bool false] [] [.bool true, .bool false] r2 rfl rfl rfl rfl info2b (oneBB _ _) ?_
        intro w5 r5 hw5
        replace hS := hS.wrote hw5 (Ne.symm hne)
        refine hK.out _ _ hS ?_
        clear hK K
        try simp only [Act.put, List.setIfInBounds_toArray, List.set_cons_zero, List.set_cons_succ]
        refine wpS_take (hS := hS) (i := 10) (oi := { dst := some 3, op := Op.assign (Operand.tmp 35), type := 4, pos := "text.go:105", after := #[{ on := 8, ground := Ground.data }, { on := 9, ground := Ground.chain }, { on := 0, ground := Ground.phase }, { on := 1, ground := Ground.phase }, { on := 2, ground := Ground.phase }, { on := 3, ground := Ground.phase }, { on := 4, ground := Ground.phase }, { on := 5, ground := Ground.phase }, { on := 6, ground := Ground.phase }, { on := 7, ground := Ground.phase }, { on := 8, ground := Ground.phase }, { on := 9, ground := Ground.phase }], guard := none }) (v := ?_) rfl (by kernel_rfl) (by kernel_rfl) (by kernel_rfl) (by rfl) ?_ ?_
        rotate_left
        · intro W hW; first | (go_simp; done) | (go_simp; with_reducible rfl)
        try simp only [Act.put, List.setIfInBounds_toArray, List.set_cons_zero, List.set_cons_succ]
        refine wpS_done (by kernel_rfl) ?_
        have HB5 : Hid (Below w.heap.size w w5) := hw5.below _ _ hge2 HBx.out
        go_wp2
        refine bodyPost_blk2 rfl rfl rfl rfl r5 Tryz.underlying22 rfl info2b ?_
        exact ⟨by rw [← HKi.out, ← HKr.out, HB2.out]; rfl, HB5.out⟩
      · have hS : BlkAt g4 22 [.bool true, .bool true] wr.drew := r4.drew
        have HB2 : Hid (kfB ls = ((n : Int) == 0)) := by show _ = _; rw [HB.out, HEm.out]; rfl
        obtain ⟨zz, hzz⟩ : ∃ b : Bool, ((n : Int) == 0) = b := ⟨_, rfl⟩
        rw [hzz] at HB2
        clear r4
        go_wp2_with fail
        refine wpS_begin (fun W => BlkAt g4 22 [.bool true, .bool true] W) (by kernel_rfl) ?_
        refine wpS_take (hS := hS) (i := 0) (oi := { dst := some 27, op := Op.load 22 (Operand.tmp 4), type := 22, pos := "text.go:105", after := #[], guard := none }) (v := ?_) rfl (by kernel_rfl) (by kernel_rfl) (by kernel_rfl) (by rfl) ?_ ?_
        rotate_left
        · intro W hW; have h0 : W.cell? ⟨g4, 0, none⟩ = some (.bool true) := hW.cell 0; have h1 : W.cell? ⟨g4, 1, none⟩ = some (.bool true) := hW.cell 1; first | (go_simp; done) | (go_simp; with_reducible rfl)
        try simp only [Act.put, List.setIfInBounds_toArray, List.set_cons_zero, List.set_cons_succ]
        refine wpS_take (hS := hS) (i := 1) (oi := { dst := some 28, op := Op.load 22 (Operand.tmp 4), type := 22, pos := "text.go:105", after := #[], guard := none }) (v := ?_) rfl (by kernel_rfl) (by kernel_rfl) (by kernel_rfl) (by rfl) ?_ ?_
        rotate_left
        · intro W hW; have h0 : W.cell? ⟨g4, 0, none⟩ = some (.bool true) := hW.cell 0; have h1 : W.cell? ⟨g4, 1, none⟩ = some (.bool true) := hW.cell 1; first | (go_simp; done) | (go_simp; with_reducible rfl)
        try simp only [Act.put, List.setIfInBounds_toArray, List.set_cons_zero, List.set_cons_succ]
        refine wpS_take (hS := hS) (i := 2) (oi := { dst := some 29, op := Op.build 22 #[], type := 22, pos := "text.go:105", after := #[], guard := none }) (v := ?_) rfl (by kernel_rfl) (by kernel_rfl) (by kernel_rfl) (by rfl) ?_ ?_
        rotate_left
        · intro W hW; have hbb := build_bb W; first | (go_simp; done) | (go_simp; with_reducible rfl)
        try simp only [Act.put, List.setIfInBounds_toArray, List.set_cons_zero, List.set_cons_succ]
        refine wpS_take (hS := hS) (i := 3) (oi := { dst := some 30, op := Op.binOp BinOp.neq 22 (Operand.tmp 28) (Operand.tmp 29) 22, type := 4, pos := "text.go:105", after := #[{ on := 1, ground := Ground.data }, { on := 2, ground := Ground.data }], guard := none }) (v := ?_) rfl (by kernel_rfl) (by kernel_rfl) (by kernel_rfl) (by rfl) ?_ ?_
        rotate_left
        · intro W hW; have heq := eqBB true true W; first | (go_simp; done) | (go_simp; with_reducible rfl)
        try simp only [Act.put, List.setIfInBounds_toArray, List.set_cons_zero, List.set_cons_succ]
        refine wpS_take (hS := hS) (i := 4) (oi := { dst := some 31, op := Op.move (Operand.tmp 30), type := 4, pos := "text.go:105", after := #[{ on := 3, ground := Ground.data }], guard := none }) (v := ?_) rfl (by kernel_rfl) (by kernel_rfl) (by kernel_rfl) (by rfl) ?_ ?_
        rotate_left
        · intro W hW; first | (go_simp; done) | (go_simp; with_reducible rfl)
        try simp only [Act.put, List.setIfInBounds_toArray, List.set_cons_zero, List.set_cons_succ]
        refine wpS_take (hS := hS) (i := 5) (oi := { dst := some 32, op := Op.move (Operand.tmp 0), type := 54, pos := "text.go:105", after := #[{ on := 4, ground := Ground.guard }], guard := some (4, true) }) (v := ?_) rfl (by kernel_rfl) (by kernel_rfl) (by kernel_rfl) (by rfl) ?_ ?_
        rotate_left
        · intro W hW; first | (go_simp; done) | (go_simp; with_reducible rfl)
        try simp only [Act.put, List.setIfInBounds_toArray, List.set_cons_zero, List.set_cons_succ]
        refine wpS_take (hS := hS) (i := 6) (oi := { dst := some 33, op := Op.call { callee := Callee.builtin Builtin.len, args := #[Operand.tmp 32], argTypes := #[54] }, type := 3, pos := "text.go:105", after := #[{ on := 5, ground := Ground.data }, { on := 4, ground := Ground.guard }], guard := some (4, true) }) (v := ?_) rfl (by kernel_rfl) (by kernel_rfl) (by kernel_rfl) (by rfl) ?_ ?_
        rotate_left
        · intro W hW; first | (go_simp; done) | (go_simp; with_reducible rfl)
        try simp only [Act.put, List.setIfInBounds_toArray, List.set_cons_zero, List.set_cons_succ]
        refine wpS_take (hS := hS) (i := 7) (oi := { dst := some 34, op := Op.binOp BinOp.eql 3 (Operand.tmp 33) (Operand.const (Value.int IntKind.i64 0)) 3, type := 4, pos := "text.go:105", after := #[{ on := 6, ground := Ground.data }, { on := 4, ground := Ground.guard }, { on := 9, ground := Ground.gcOnly Departure.lateStores }], guard := some (4, true) }) (v := ?_) rfl (by kernel_rfl) (by kernel_rfl) (by kernel_rfl) (by rfl) ?_ ?_
        rotate_left
        · intro W hW; first | (go_simp; done) | (go_simp; with_reducible rfl)
        try simp only [Act.put, List.setIfInBounds_toArray, List.set_cons_zero, List.set_cons_succ]
        refine wpS_take (hS := hS) (i := 8) (oi := { dst := some 35, op := Op.pick (Operand.tmp 31) (Operand.tmp 34) (Operand.const (Value.bool false)), type := 4, pos := "text.go:105", after := #[{ on := 4, ground := Ground.data }, { on := 7, ground := Ground.data }, { on := 9, ground := Ground.gcOnly Departure.lateStores }], guard := none }) (v := ?_) rfl (by kernel_rfl) (by kernel_rfl) (by kernel_rfl) (by rfl) ?_ ?_
        rotate_left
        · intro W hW; first | (go_simp; done) | (go_simp; with_reducible rfl)
        try simp only [Act.put, List.setIfInBounds_toArray, List.set_cons_zero, List.set_cons_succ]
        refine wpS_do (i := 9) (o := { dst := none, op := Op.store 22 (Operand.tmp 2) (Operand.tmp 27), type := 0, pos := "text.go:105", after := #[{ on := 0, ground := Ground.data }, { on := 4, ground := Ground.chain }, { on := 0, ground := Ground.phase }, { on := 1, ground := Ground.textOnly Departure.lateStores }, { on := 2, ground := Ground.textOnly Departure.lateStores }, { on := 3, ground := Ground.textOnly Departure.lateStores }, { on := 4, ground := Ground.textOnly Departure.lateStores }, { on := 5, ground := Ground.textOnly Departure.lateStores }, { on := 6, ground := Ground.textOnly Departure.lateStoresUnsure }, { on := 7, ground := Ground.textOnly Departure.lateStores }, { on := 8, ground := Ground.textOnly Departure.lateStores }], guard := none }) (by kernel_rfl) rfl (by rfl) fun K hK => ?_
        refine wp_store_part 22 _ _ rfl rfl [.bool true, .bool true] rfl [] [.bool false, .bool false] [] [.bool true, .bool true] r2 rfl rfl rfl rfl info2b (oneBB _ _) ?_
        intro w5 r5 hw5
        replace hS := hS.wrote hw5 (Ne.symm hne)
        refine hK.out _ _ hS ?_
        clear hK K
        try simp only [Act.put, List.setIfInBounds_toArray, List.set_cons_zero, List.set_cons_succ]
        refine wpS_take (hS := hS) (i := 10) (oi := { dst := some 3, op := Op.assign (Operand.tmp 35), type := 4, pos := "text.go:105", after := #[{ on := 8, ground := Ground.data }, { on := 9, ground := Ground.chain }, { on := 0, ground := Ground.phase }, { on := 1, ground := Ground.phase }, { on := 2, ground := Ground.phase }, { on := 3, ground := Ground.phase }, { on := 4, ground := Ground.phase }, { on := 5, ground := Ground.phase }, { on := 6, ground := Ground.phase }, { on := 7, ground := Ground.phase }, { on := 8, ground := Ground.phase }, { on := 9, ground := Ground.phase }], guard := none }) (v := ?_) rfl (by kernel_rfl) (by kernel_rfl) (by kernel_rfl) (by rfl) ?_ ?_
        rotate_left
        · intro W hW; first | (go_simp; done) | (go_simp; with_reducible rfl)
        try simp only [Act.put, List.setIfInBounds_toArray, List.set_cons_zero, List.set_cons_succ]
        refine wpS_done (by kernel_rfl) ?_
        have HB5 : Hid (Below w.heap.size w w5) := hw5.below _ _ hge2 HBx.out
        go_wp2
        refine bodyPost_blk2 rfl rfl rfl rfl r5 Tryz.underlying22 rfl info2b ?_
        exact ⟨by rw [← HKi.out, ← HKr.out, HB2.out]; rfl, HB5.out⟩
end Go.Proofs.YtpoibhhijidobabGreatDoor

/- The body of a text: contracts of package pattern, twenty-first part. -/
namespace Go.Proofs.YtpoibhhijidobabGreatDoor
open Go.ChangeShapes Go.WideShapes Go.ChangeAt Go.RowKit
set_option linter.unusedSimpArgs false
set_option linter.unusedVariables false

/-- Is a colon a text's last sign? What stands ahead of it, without blanks at its end. -/
def nmE (x : List UInt8) : Bool := [58].isSuffixOf x
def nmX (x : List UInt8) : List UInt8 := teT (if nmE x then x.take (x.length - 1) else x)
theorem tfT_len15 : ∀ s : List UInt8, (tfT s).length ≤ s.length := tfT_len
theorem teT_len (s : List UInt8) : (teT s).length ≤ s.length := by
  unfold teT
  rw [List.length_reverse]
  have := tfT_len s.reverse
  rw [List.length_reverse] at this
  exact this
theorem nmX_len (x : List UInt8) : (nmX x).length ≤ x.length := by
  unfold nmX
  refine Nat.le_trans (teT_len _) ?_
  split
  · rw [List.length_take]; omega
  · exact Nat.le_refl _

set_option maxHeartbeats 2000000 in
theorem readName_any (x : List UInt8) (hx : x.length ≤ 4096) (w : World) :
    Calls Tryz.prog 51 #[.string ⟨x.toArray⟩] w fun e w' => e = .returned (.tuple #[.string ⟨(nmX x).toArray⟩, .bool (nmE x)]) ∧ Below w.heap.size w w' := by
  have HC : Hid (Calls Tryz.prog 68 #[.string ⟨x.toArray⟩, .string ⟨#[58]⟩] w fun e w' => e = .returned (.tuple #[.string ⟨(if nmE x then x.take (x.length - 1) else x).toArray⟩, .bool (nmE x)]) ∧ w' = w) := cutS_any x [58] (by omega) w
  obtain ⟨y, hy⟩ : ∃ y : List UInt8, y = if nmE x then x.take (x.length - 1) else x := ⟨_, rfl⟩
  have hyl : y.length ≤ 4096 := by
    rw [hy]
    split
    · rw [List.length_take]; omega
    · exact hx
  have hn : nmX x = teT y := by unfold nmX; rw [← hy]
  rw [← hy] at HC
  rw [hn]
  have HC2 : Hid (∀ W : World, Calls Tryz.prog 70 #[.string ⟨y.toArray⟩, .string ⟨#[32]⟩] W fun e w' => e = .returned (.string ⟨(teT y).toArray⟩) ∧ w' = W) := fun W => trimR_any y (by omega) W
  have HC3 : Hid (∀ W : World, Calls Tryz.prog 69 #[.string ⟨(teT y).toArray⟩] W fun e w' => e = .returned (.string ⟨(teT y).toArray⟩) ∧ Below W.heap.size W w') := fun W => clone_any (teT y) (by have := teT_len y; omega) W
  generalize (⟨x.toArray⟩ : ByteArray) = XB at HC ⊢
  generalize (⟨y.toArray⟩ : ByteArray) = YB at HC HC2
  generalize (⟨(teT y).toArray⟩ : ByteArray) = TB at HC2 HC3 ⊢
  generalize nmE x = z at HC ⊢
  clear hy hyl hn hx
  go_enter Tryz.func51, Tryz.ntmps51
  go_wp2_with fail
  refine HC.out.mono ?_
  rintro e w1 ⟨rfl, rfl⟩
  go_wp2_with fail
  refine (HC2.out _).mono ?_
  rintro e w1 ⟨rfl, rfl⟩
  go_wp2_with fail
  refine (HC3.out _).mono ?_
  rintro e w2 ⟨rfl, b2⟩
  go_wp2
  go_ret2
  exact ⟨rfl, b2⟩

/-- The pattern of the lines behind the first one; none, if there is none. -/
def bdF (nm : List UInt8) (ls : List (List UInt8)) : Option Ptn :=
  if ixL dotT ls = -1 then (if ls.all msgB then some ⟨nm, false, false, mgL ls⟩ else none)
  else if kfB (ls.take (ixL dotT ls).toNat) && (ls.drop ((ixL dotT ls).toNat + 1)).all msgB then some ⟨nm, kfI (ls.take (ixL dotT ls).toNat) 2, kfR (ls.take (ixL dotT ls).toNat) 2, mgL (ls.drop ((ixL dotT ls).toNat + 1))⟩ else none
theorem ixL_lt (x : List UInt8) : ∀ zs, ixL x zs < zs.length
  | [] => by simp [ixL]
  | z :: zs => by
    have := ixL_lt x zs
    have eu : ixL x (z :: zs) = if z = x then 0 else if ixL x zs = -1 then -1 else ixL x zs + 1 := rfl
    rw [eu]
    simp only [List.length_cons]
    split
    · omega
    · split <;> omega
theorem msR_name {w : World} {v : Value} {a b : Ptn} (h : MsR w v a) (e : a.ms = b.ms) : MsR w v b := by
  obtain ⟨n1, k1, r1, m1⟩ := a
  obtain ⟨n2, k2, r2, m2⟩ := b
  simp only at e
  subst e
  exact ⟨h.form⟩
theorem paC_set (nm : List UInt8) (ki kr : Bool) (m1 m2 : List (Bool × List Int)) (v v' : Value) : (paC ⟨nm, ki, kr, m1⟩ v).set 3 v' = paC ⟨nm, ki, kr, m2⟩ v' := rfl
/-- What the body is answered as. -/
def BdP (nm : List UInt8) (ls : List (List UInt8)) (g : Nat) (w : World) (e : Ending) (w' : World) : Prop :=
  Chg (fun b => b = g) w w' ∧ ((∃ q, bdF nm ls = some q ∧ e = .returned (.bool true) ∧ ∃ vm, BlkAt g 25 (paC q vm) w' ∧ ∀ W, Chg (fun b => b < w.heap.size) w' W → MsR W vm q) ∨ (bdF nm ls = none ∧ e = .returned (.bool false)))

set_option maxRecDepth 100000 in
set_option maxHeartbeats 8000000 in
theorem readBody_any (nm : List UInt8) (ls : List (List UInt8)) (v : Value) (g : Nat) (hls : ls.length ≤ 4097) (hx : ∀ x ∈ ls, x.length ≤ 4096) (w : World) (hb : BlkAt g 25 (paC ⟨nm, false, false, []⟩ (.slice none 0 0)) w)
    (hR : ∀ W, Chg (fun b => b = g) w W → RdC W v (stC ls)) (hT : ∀ W, Chg (fun b => b = g) w W → TkT W) :
    Calls Tryz.prog 52 #[.pointer (some ⟨g, 0, none⟩), v] w fun e w' => BdP nm ls g w e w' := by
  have hR0 := hR w (Chg.refl _ _)
  obtain ⟨a, c, rfl, h1, h2, h3⟩ := st_len hR0
  obtain ⟨n, hn⟩ : ∃ n : Nat, n = ls.length := ⟨_, rfl⟩
  have HN : Hid (n = ls.length) := hn
  rw [← hn] at h1 hR hR0
  rw [← hn]
  have HR : Hid (∀ W, Chg (fun b => b = g) w W → RdC W (.slice a n c) (stC ls)) := hR
  have HT : Hid (∀ W, Chg (fun b => b = g) w W → TkT W) := hT
  have HX : Hid (ls.length ≤ 4097 ∧ ∀ x ∈ ls, x.length ≤ 4096) := ⟨hls, hx⟩
  have HR0 : Hid (RdC w (.slice a n c) (stC ls)) := hR0
  have hlt := hb.lt
  have HM2 : Hid (c ≤ maxLen ∧ (a = none → c = 0)) := ⟨h2, h3⟩
  clear hR hT hx hls hn hR0 h2 h3
  go_enter Tryz.func52, Tryz.ntmps52
  go_wp2_with fail
  refine (idxS_any dotT ls _ _ HR0.out (by have := HX.out.1; omega)).mono ?_
  rintro e w ⟨rfl, rfl⟩
  obtain ⟨E, hE⟩ : ∃ E : Int, E = ixL dotT ls := ⟨_, rfl⟩
  have hge := ixL_ge dotT ls
  have hlt2 := ixL_lt dotT ls
  rw [← hE] at hge hlt2 ⊢
  have HBd : Hid (bdF nm ls = if E = -1 then (if ls.all msgB then some ⟨nm, false, false, mgL ls⟩ else none) else if kfB (ls.take E.toNat) && (ls.drop (E.toNat + 1)).all msgB then some ⟨nm, kfI (ls.take E.toNat) 2, kfR (ls.take E.toNat) 2, mgL (ls.drop (E.toNat + 1))⟩ else none) := by show _ = _; rw [hE]; rfl
  clear hE
  by_cases hE1 : E = -1
  · have HBd2 : Hid (bdF nm ls = if ls.all msgB then some ⟨nm, false, false, mgL ls⟩ else none) := by show _ = _; rw [HBd.out, if_pos hE1]
    subst hE1
    clear HBd hge hlt2
    go_wp2_with fail
    refine (readMessages_any ls _ HX.out.1 HX.out.2 _ HR0.out (HT.out _ (Chg.refl _ _))).mono ?_
    rintro e w5 (⟨hall, vm, rfl, hMs, b5⟩ | ⟨hall, rfl, b5⟩)
    · replace hb := hb.kept b5
      have c3 : w5.cell? ⟨g, 3, none⟩ = some (.slice none 0 0) := hb.cell 3
      have f3 := hb.free 3
      have HS : Hid (BlkAt g 25 (paC ⟨nm, false, false, mgL ls⟩ vm) (w5.setCell ⟨g, 3, none⟩ vm) ∧ Wrote g w5 (w5.setCell ⟨g, 3, none⟩ vm)) := ⟨hb.set 3 vm, Wrote.set g 3 w5 vm⟩
      have HF : Hid (BdP nm ls g w (.returned (.bool true)) (w5.setCell ⟨g, 3, none⟩ vm)) := by
        refine ⟨(Chg.of_below b5).trans (Chg.of_wrote HS.out.2), .inl ⟨_, by rw [HBd2.out, if_pos hall], rfl, vm, HS.out.1, fun W hW => ?_⟩⟩
        exact msR_name (hMs _ (((Chg.of_wrote HS.out.2).mono fun k _ e => by omega).trans hW)) rfl
      obtain ⟨am, cm, em⟩ : ∃ a n c, vm = .slice a n c := by
        obtain ⟨a, c, e, -⟩ := (hMs _ (Chg.refl _ _)).form
        exact ⟨a, _, c, e⟩
      obtain ⟨cm, em⟩ := em
      subst em
      clear hMs b5 hb HS hall
      go_wp2
      go_ret
      exact HF.out
    · replace hb := hb.kept b5
      have c3 : w5.cell? ⟨g, 3, none⟩ = some (.slice none 0 0) := hb.cell 3
      have f3 := hb.free 3
      have HF : Hid (BdP nm ls g w (.returned (.bool false)) (w5.setCell ⟨g, 3, none⟩ (.slice none 0 0))) :=
        ⟨(Chg.of_below b5).trans (Chg.of_wrote (Wrote.set g 3 w5 _)), .inr ⟨by rw [HBd2.out, if_neg (by rw [hall]; simp)], rfl⟩⟩
      clear b5 hb hall
      go_wp2
      go_ret
      exact HF.out
  · obtain ⟨k, hk⟩ : ∃ k : Nat, E = (k : Int) := ⟨E.toNat, by omega⟩
    subst hk
    have hkl : k < n := by have := HN.out; omega
    have HBd2 : Hid (bdF nm ls = if kfB (ls.take k) && (ls.drop (k + 1)).all msgB then some ⟨nm, kfI (ls.take k) 2, kfR (ls.take k) 2, mgL (ls.drop (k + 1))⟩ else none) := by show _ = _; rw [HBd.out, if_neg hE1, Int.toNat_natCast]
    have hk0 : decide ((0 : Int) ≤ (k : Int)) = true := decide_eq_true (by omega)
    have hk1 : (0 : Int) ≤ (k : Int) := by omega
    have HRh : Hid (RdC w (.slice a k c) (stC (ls.take k))) := by
      have := headC HR0.out (m := k) (by omega)
      rw [show (stC ls).take k = stC (ls.take k) by simp [stC, List.map_take]] at this
      exact this
    clear HBd hge hlt2 hE1
    go_wp2_with (refine wpList_valP rfl (headS (L := n) (m := k) (.tmp 13) (.tmp 14) rfl rfl rfl (by omega) h1 HM2.out.1 HM2.out.2) ?_)
    refine (readKnown_any (ls.take k) _ (by rw [List.length_take]; have := HX.out.1; omega) (fun x hx => HX.out.2 x (List.mem_of_mem_take hx)) _ HRh.out (HT.out _ (Chg.refl _ _))).mono ?_
    rintro e w3 ⟨rfl, b3⟩
    replace hb := hb.kept b3
    obtain ⟨KI, hKI⟩ : ∃ b, b = kfI (ls.take k) 2 := ⟨_, rfl⟩
    obtain ⟨KR, hKR⟩ : ∃ b, b = kfR (ls.take k) 2 := ⟨_, rfl⟩
    obtain ⟨KB, hKB⟩ : ∃ b, b = kfB (ls.take k) := ⟨_, rfl⟩
    rw [← hKI, ← hKR, ← hKB] at HBd2
    rw [← hKI, ← hKR, ← hKB]
    clear hKI hKR hKB HRh
    go_wp2_with (refine wpList_store_part rfl 22 _ _ rfl rfl [.bool KI, .bool KR] rfl [.string ⟨nm.toArray⟩] [.bool false, .bool false] [.slice none 0 0] (paC ⟨nm, KI, KR, []⟩ (.slice none 0 0)) hb rfl rfl rfl rfl info2b (oneBB _ _) ?_)
    intro w4 r4 hw4
    have HC4 : Hid (Chg (fun b => b = g) w w4) := (Chg.of_below b3).trans (Chg.of_wrote hw4)
    obtain ⟨m, hm⟩ : ∃ m : Nat, m = k + 1 := ⟨_, rfl⟩
    have HMi : Hid (((k : Int) + 1) = (m : Int)) := by show _ = _; omega
    obtain ⟨a', hrun, hrd⟩ := tailS (ab := a) (L := n) (cb := c) (m := m) (by omega) h1 HM2.out.1 HM2.out.2
    have HRt : Hid (∀ W, Chg (fun b => b = g) w W → RdC W (.slice a' (n - m) (c - m)) (stC (ls.drop m))) := by
      show ∀ W, _
      intro W hW
      have := hrd W _ (HR.out W hW)
      rw [show (stC ls).drop m = stC (ls.drop m) by simp [stC, List.map_drop]] at this
      exact this
    rw [← hm] at HBd2
    have hc1 := HM2.out.1
    unfold maxLen at hc1
    clear hb b3 hw4 hrd hm
    cases KB with
    | false =>
      have HF : Hid (BdP nm ls g w (.returned (.bool false)) w4) := ⟨HC4.out, .inr ⟨by rw [HBd2.out]; rfl, rfl⟩⟩
      go_wp2_with (refine wpList_valP rfl (hrun (.tmp 21) (.tmp 23) rfl rfl (congrArg (Value.int .i64) HMi.out)) ?_)
      go_ret
      exact HF.out
    | true =>
      have HBd3 : Hid (bdF nm ls = if (ls.drop (m)).all msgB then some ⟨nm, KI, KR, mgL (ls.drop (m))⟩ else none) := by show _ = _; rw [HBd2.out]; rfl
      go_wp2_with (refine wpList_valP rfl (hrun (.tmp 21) (.tmp 23) rfl rfl (congrArg (Value.int .i64) HMi.out)) ?_)
      refine (readMessages_any (ls.drop (m)) _ (by rw [List.length_drop]; have := HX.out.1; omega) (fun x hx => HX.out.2 x (List.mem_of_mem_drop hx)) _ (HRt.out _ HC4.out) (HT.out _ HC4.out)).mono ?_
      have hlt4 := r4.lt
      rintro e w5 (⟨hall, vm, rfl, hMs, b5⟩ | ⟨hall, rfl, b5⟩)
      · replace r4 := r4.kept b5
        have c3 : w5.cell? ⟨g, 3, none⟩ = some (.slice none 0 0) := r4.cell 3
        have f3 := r4.free 3
        have HS : Hid (BlkAt g 25 (paC ⟨nm, KI, KR, mgL (ls.drop (m))⟩ vm) (w5.setCell ⟨g, 3, none⟩ vm) ∧ Wrote g w5 (w5.setCell ⟨g, 3, none⟩ vm)) := ⟨r4.set 3 vm, Wrote.set g 3 w5 vm⟩
        have HF : Hid (BdP nm ls g w (.returned (.bool true)) (w5.setCell ⟨g, 3, none⟩ vm)) := by
          refine ⟨(HC4.out.trans (Chg.of_below b5)).trans (Chg.of_wrote HS.out.2), .inl ⟨_, by rw [HBd3.out, if_pos hall], rfl, vm, HS.out.1, fun W hW => ?_⟩⟩
          have hsz := HC4.out.size
          exact msR_name (hMs _ (((Chg.of_wrote HS.out.2).mono fun k _ e => by omega).trans (hW.mono fun k _ e => by omega))) rfl
        obtain ⟨am, nm2, cm, em⟩ : ∃ a n c, vm = .slice a n c := by
          obtain ⟨a, c, e, -⟩ := (hMs _ (Chg.refl _ _)).form
          exact ⟨a, _, c, e⟩
        subst em
        clear hMs b5 r4 HS hall
        go_wp2
        go_ret
        exact HF.out
      · replace r4 := r4.kept b5
        have c3 : w5.cell? ⟨g, 3, none⟩ = some (.slice none 0 0) := r4.cell 3
        have f3 := r4.free 3
        have HF : Hid (BdP nm ls g w (.returned (.bool false)) (w5.setCell ⟨g, 3, none⟩ (.slice none 0 0))) :=
          ⟨(HC4.out.trans (Chg.of_below b5)).trans (Chg.of_wrote (Wrote.set g 3 w5 _)), .inr ⟨by rw [HBd3.out, if_neg (by rw [hall]; simp)], rfl⟩⟩
        clear b5 r4 hall
        go_wp2
        go_ret
        exact HF.out
end Go.Proofs.YtpoibhhijidobabGreatDoor

/- The pattern of a text: contracts of package pattern, twenty-second part. -/
namespace Go.Proofs.YtpoibhhijidobabGreatDoor
open Go.ChangeShapes Go.WideShapes Go.ChangeAt Go.RowKit
set_option linter.unusedSimpArgs false
set_option linter.unusedVariables false

/-- The pattern of lines that count. -/
def rdF (ls : List (List UInt8)) : Option Ptn :=
  if ls = [] then none
  else if nmE (ls.getD 0 []) = false then none
  else (bdF (nmX (ls.getD 0 [])) (ls.drop 1)).bind fun q => if wrB q then some q else none
/-- What Parse answers. -/
def psO : Option Ptn → Ptn × Int
  | none => (zeP, 20)
  | some q => (q, 0)
def psQ (s : List UInt8) : Ptn × Int := if 4096 < s.length then (zeP, 1) else psO (rdF (lnS s))
theorem bdF_name {nm : List UInt8} {ls : List (List UInt8)} {q : Ptn} (h : bdF nm ls = some q) : q.name = nm := by
  unfold bdF at h
  split at h
  · split at h
    · simp only [Option.some.injEq] at h
      rw [← h]
    · cases h
  · split at h
    · simp only [Option.some.injEq] at h
      rw [← h]
    · cases h
theorem allocPa (w : World) : (Instr.alloc 25 true (.tuple #[])).run Tryz.prog w = .ok (.pointer (some ⟨w.heap.size, 0, none⟩)) (w.alloc (.cells (paC zeP (.slice none 0 0)).toArray 25)) := by kernel_rfl
theorem buildPa (w : World) : (Instr.build 25 #[]).run Tryz.prog w = .ok (.agg (paC zeP (.slice none 0 0)).toArray) w := by kernel_rfl
theorem buildPn (S : ByteArray) (w : World) : (Instr.build 25 #[(0, .string S)]).run Tryz.prog w = .ok (.agg #[.string S, .bool false, .bool false, .slice none 0 0]) w := by kernel_rfl
theorem paC_all (p : Ptn) (a : Option Addr) (n c : Nat) : (paC p (.slice a n c)).toArray.all (·.oneCell') = true := all_oneCell_toArray (by
  intro v hv
  simp only [paC, List.mem_cons, List.not_mem_nil, or_false] at hv
  rcases hv with rfl | rfl | rfl | rfl <;> rfl)
theorem zeP_ms (w : World) : MsR w (.slice none 0 0) zeP := ⟨none, 0, rfl, Nat.le_refl _, by simp [maxLen], .inl rfl⟩
theorem ms_form {w : World} {v : Value} {p : Ptn} (h : MsR w v p) : ∃ a n c, v = .slice a n c := by
  obtain ⟨a, c, e, -⟩ := h.form
  exact ⟨a, _, c, e⟩
theorem TkT.chg {w W : World} {g : Nat} (h : TkT w) (c : Chg (fun b => b = g) w W) (hk : 0 ≠ g ∧ 1 ≠ g ∧ 2 ≠ g) : TkT W :=
  ⟨fun i hi => cell_chg c (h.words i hi) hk.1, cell_chg c h.ar0 hk.2.1, cell_chg c h.ar1 hk.2.1, h.mx.imp fun m hm => cell_chg c hm hk.2.2⟩
theorem TkT.lt {w : World} (h : TkT w) : 0 < w.heap.size ∧ 1 < w.heap.size ∧ 2 < w.heap.size :=
  ⟨World.block_lt_of_cell? _ _ (h.words 0 (by omega)), World.block_lt_of_cell? _ _ h.ar0, by obtain ⟨m, hm⟩ := h.mx; exact World.block_lt_of_cell? _ _ hm⟩
/-- A guarded operation that touches no memory. -/
theorem wpList_valW {P : Program} {ops : Array Oper} {rest : List Oper} {op : Oper} {a : Act} {w : World} {Q : Exit → Act → World → Prop} {v : Value} (hy : (execOp a.eval op).run P w = .ok (.value v) w) (hw : Region.wanted op (yielded ops a.tmps) = true)
    (h : wpList P ops Q rest (a.put op.dst v) w) : wpList P ops Q (op :: rest) a w := by
  refine wpList_step fun K hK => ?_
  rw [if_pos hw]
  unfold Oper.wp
  rw [hy]
  exact hK _ _ h
/-- What the lines are answered as. -/
def RdP (ls : List (List UInt8)) (w : World) (e : Ending) (w' : World) : Prop :=
  Below w.heap.size w w' ∧ ((∃ q vm, rdF ls = some q ∧ e = .returned (.tuple #[.agg (paC q vm).toArray, .bool true]) ∧ ∀ W, Chg (fun b => b < w.heap.size) w' W → MsR W vm q) ∨ (rdF ls = none ∧ e = .returned (.tuple #[.agg (paC zeP (.slice none 0 0)).toArray, .bool false])))

set_option maxRecDepth 100000 in
set_option maxHeartbeats 8000000 in
theorem read_any (ls : List (List UInt8)) (v : Value) (hls : ls.length ≤ 4097) (hx : ∀ x ∈ ls, x.length ≤ 4096) (w0 w : World) (hO : OwnG w0 [Rw.st v ls] w) (hT : TkT w) :
    Calls Tryz.prog 25 #[v] w fun e w' => RdP ls w e w' := by
  obtain ⟨a, c, rfl, h1, h2, h3⟩ := st_len (hO.rdC rfl)
  obtain ⟨n, hn⟩ : ∃ n : Nat, n = ls.length := ⟨_, rfl⟩
  have HN : Hid (n = ls.length) := hn
  replace hO : OwnG w0 [⟨9, 1, .slice a n c, n, stC ls⟩] w := by rw [hn]; exact hO
  rw [← hn] at h1 ⊢
  have HO : Hid (OwnG w0 [⟨9, 1, .slice a n c, n, stC ls⟩] w) := hO
  have HT : Hid (TkT w) := hT
  have HX : Hid (ls.length ≤ 4097 ∧ ∀ x ∈ ls, x.length ≤ 4096) := ⟨hls, hx⟩
  have HM2 : Hid (c ≤ maxLen ∧ (a = none → c = 0)) := ⟨h2, h3⟩
  clear hO hT hls hx hn h2 h3
  go_enter Tryz.func25, Tryz.ntmps25
  go_wp2_with (refine wpList_alloc_blk rfl 25 rfl (paC zeP (.slice none 0 0)) (allocPa _) ?_)
  intro w1 r1 b1 s1
  have HT1 : Hid (TkT w1) := HT.out.kept b1
  have HO1 : Hid (OwnG w0 [⟨9, 1, .slice a n c, n, stC ls⟩] w1) := HO.out.kept b1
  have HB1 : Hid (Below w.heap.size w w1) := b1
  obtain ⟨g2, hg2⟩ : ∃ g : Nat, g = w.heap.size := ⟨_, rfl⟩
  rw [← hg2] at r1 ⊢
  have HG2 : Hid (g2 = w.heap.size) := hg2
  clear b1 s1 HT hg2
  by_cases hn0 : n = 0
  · have HE : Hid (rdF ls = none) := by
      show _ = _
      unfold rdF
      rw [if_pos (List.eq_nil_of_length_eq_zero (by rw [← HN.out]; exact hn0))]
    subst hn0
    have bp := fun w => buildPa w
    go_wp2_with (refine wpList_store_part rfl 25 _ _ rfl rfl (paC zeP (.slice none 0 0)) rfl [] (paC zeP (.slice none 0 0)) [] (paC zeP (.slice none 0 0)) r1 (whole15 _) (whole15 _) rfl rfl (paInfo _ _) (paC_all _ _ _ _) ?_)
    intro w3 r3 hw3
    have HB3 : Hid (Below w.heap.size w w3) := hw3.below _ _ (by have := HG2.out; omega) HB1.out
    go_wp2
    refine bodyPost_blk2 rfl rfl rfl rfl r3 Tryz.underlying25 rfl (paInfo _ _) ?_
    exact ⟨HB3.out, .inr ⟨HE.out, rfl⟩⟩
  · have d1 : ((n : Int) == 0) = false := by
      have : ¬ (n : Int) = 0 := by omega
      simpa using this
    have d2 : ¬ (n : Int) = 0 := by omega
    have d3 : (0 : Int) < (n : Int) := by omega
    have HIn : Hid (0 < ls.length) := by show _ < _; have := HN.out; omega
    obtain ⟨b, off, rfl, g1⟩ := st_at (HO1.out.rdC rfl) HIn.out
    have g1' : w1.cell? ⟨b, off, none⟩ = some (.string ⟨(ls.getD 0 []).toArray⟩) := g1
    obtain ⟨x, hx⟩ : ∃ x : List UInt8, x = ls.getD 0 [] := ⟨_, rfl⟩
    rw [← hx] at g1'
    have hxl : x.length ≤ 4096 := HX.out.2 x (by rw [hx]; have := HIn.out; simp [this])
    have HRd : Hid (rdF ls = if nmE x = false then none else (bdF (nmX x) (ls.drop 1)).bind fun q => if wrB q then some q else none) := by
      show _ = _
      unfold rdF
      rw [if_neg (fun e => by have := HIn.out; rw [e] at this; simp at this), ← hx]
    have HC : Hid (∀ W : World, Calls Tryz.prog 51 #[.string ⟨x.toArray⟩] W fun e w' => e = .returned (.tuple #[.string ⟨(nmX x).toArray⟩, .bool (nmE x)]) ∧ Below W.heap.size W w') := fun W => readName_any x hxl W
    have HNl : Hid ((nmX x).length ≤ 4096) := Nat.le_trans (nmX_len x) hxl
    generalize (⟨x.toArray⟩ : ByteArray) = XB at g1' HC
    clear hx g1 hxl
    go_wp2_with fail
    refine (HC.out _).mono ?_
    rintro e w3 ⟨rfl, b3⟩
    obtain ⟨NM, hNM⟩ : ∃ l : List UInt8, l = nmX x := ⟨_, rfl⟩
    obtain ⟨z, hz⟩ : ∃ z : Bool, z = nmE x := ⟨_, rfl⟩
    rw [← hNM, ← hz] at HRd ⊢
    rw [← hNM] at HNl
    obtain ⟨SB, hSB⟩ : ∃ B : ByteArray, B = ⟨NM.toArray⟩ := ⟨_, rfl⟩
    rw [← hSB]
    have HSB : Hid (SB = ⟨NM.toArray⟩) := hSB
    have HT3 : Hid (TkT w3) := HT1.out.kept b3
    have HO3 : Hid (OwnG w0 [⟨9, 1, .slice (some ⟨b, off, none⟩) n c, n, stC ls⟩] w3) := HO1.out.kept b3
    have HB3 : Hid (Below w.heap.size w w3) := stepB HB1.out b3
    have HR3 : Hid (BlkAt g2 25 (paC zeP (.slice none 0 0)) w3) := r1.kept b3
    have bp := fun w => buildPn SB w
    have HPe : Hid (paC ⟨NM, false, false, []⟩ (.slice none 0 0) = [.string SB, .bool false, .bool false, .slice none 0 0]) := by show _ = _; rw [hSB]; rfl
    clear HC g1' b3 r1 hNM hz hSB HT1 HO1 HB1
    go_wp2_with (refine wpList_alloc_blk rfl 25 rfl (paC zeP (.slice none 0 0)) (allocPa _) ?_)
    intro w4 r4 b4 s4
    have r6' := HR3.out.kept b4
    obtain ⟨g6, hg6⟩ : ∃ g : Nat, g = w3.heap.size := ⟨_, rfl⟩
    rw [← hg6] at r4 ⊢
    have hne26 : g2 ≠ g6 := by have := HR3.out.lt; omega
    have hg6w : w.heap.size ≤ g6 := by have := HB3.out.size; omega
    have HLtT : Hid (0 ≠ g6 ∧ 1 ≠ g6 ∧ 2 ≠ g6) := by have := HT3.out.lt; show _ ∧ _; omega
    have hg60 : w0.heap.size ≤ g6 := by have := HO3.out.below.size; omega
    have HO4 := HO3.out.kept b4
    have HLo : Hid (∀ q ∈ ([⟨9, 1, .slice (some ⟨b, off, none⟩) n c, n, stC ls⟩] : List Rw), ∀ b, q.v.ownBlock = some b → b ≠ g6) := fun q hq b hb => by have := HO3.out.lt q hq b hb; omega
    clear hg6
    go_wp2_with (refine wpList_store_part rfl 25 _ _ rfl rfl [.string SB, .bool false, .bool false, .slice none 0 0] rfl [] (paC zeP (.slice none 0 0)) [] (paC ⟨NM, false, false, []⟩ (.slice none 0 0)) r4 (whole15 _) (by rw [HPe.out]; rfl) rfl rfl (paInfo _ _) (by rw [← HPe.out]; exact paC_all _ _ _ _) ?_)
    intro w5 r5 hw5
    have HT5 : Hid (TkT w5) := (HT3.out.kept b4).chg (Chg.of_wrote hw5) HLtT.out
    have HO5 : Hid (OwnG w0 [⟨9, 1, .slice (some ⟨b, off, none⟩) n c, n, stC ls⟩] w5) := HO4.wrote hw5 hg60 HLo.out
    have HR5 : Hid (BlkAt g2 25 (paC zeP (.slice none 0 0)) w5) := r6'.wrote hw5 hne26
    have HB5 : Hid (Below w.heap.size w w5) := hw5.below _ _ hg6w (stepB HB3.out b4)
    clear r4 b4 s4 hw5 r6' HO4 HT3 HO3 HR3 HB3
    cases z with
    | false =>
      have HE : Hid (rdF ls = none) := by show _ = _; rw [HRd.out, if_pos rfl]
      have bp0 := fun w => buildPa w
      clear r5
      go_wp2_with (refine wpList_store_part rfl 25 _ _ rfl rfl (paC zeP (.slice none 0 0)) rfl [] (paC zeP (.slice none 0 0)) [] (paC zeP (.slice none 0 0)) HR5.out (whole15 _) (whole15 _) rfl rfl (paInfo _ _) (paC_all _ _ _ _) ?_)
      intro w7 r7 hw7
      have HB7 : Hid (Below w.heap.size w w7) := hw7.below _ _ (by have := HG2.out; omega) HB5.out
      go_wp2
      refine bodyPost_blk2 rfl rfl rfl rfl r7 Tryz.underlying25 rfl (paInfo _ _) ?_
      exact ⟨HB7.out, .inr ⟨HE.out, rfl⟩⟩
    | true =>
      have HRd2 : Hid (rdF ls = (bdF NM (ls.drop 1)).bind fun q => if wrB q then some q else none) := by show _ = _; rw [HRd.out, if_neg (by simp)]
      obtain ⟨a', hrun, hrd⟩ := tailS (ab := some ⟨b, off, none⟩) (L := n) (cb := c) (m := 1) (by omega) h1 HM2.out.1 HM2.out.2
      have HRt : Hid (∀ W, Chg (fun b => b = g6) w5 W → RdC W (.slice a' (n - 1) (c - 1)) (stC (ls.drop 1))) := by
        show ∀ W, _
        intro W hW
        have h5 := own_chgG (HO5.out.rows _ (List.mem_cons_self ..)) hW (fun b hb e => HLo.out _ (List.mem_cons_self ..) b hb e)
        have := hrd W _ (RdC.of_own h5)
        rw [show (stC ls).drop 1 = stC (ls.drop 1) by simp [stC, List.map_drop]] at this
        exact this
      have HTt : Hid (∀ W, Chg (fun b => b = g6) w5 W → TkT W) := fun W hW => HT5.out.chg hW HLtT.out
      clear hrd
      go_wp2_with (refine wpList_valW (hrun (.tmp 23) (.const (.int .i64 1)) rfl rfl rfl) (by go_simp; done) ?_)
      refine (readBody_any NM (ls.drop 1) _ g6 (by rw [List.length_drop]; have := HX.out.1; omega) (fun x hx => HX.out.2 x (List.mem_of_mem_drop hx)) _ r5 HRt.out HTt.out).mono ?_
      rintro e w6 ⟨hC6, hcase⟩
      have HR6 : Hid (BlkAt g2 25 (paC zeP (.slice none 0 0)) w6) := HR5.out.chg hC6 hne26
      have HB6 : Hid (Below w.heap.size w w6) := Chg.below HB5.out hC6 HB5.out.size (fun k _ e => by omega)
      rcases hcase with ⟨q, hq, rfl, vm, r6, hM6⟩ | ⟨hq, rfl⟩
      · have HQ : Hid (rdF ls = if wrB q then some q else none) := by show _ = _; rw [HRd2.out, hq]; rfl
        have hqn : q.name.length ≤ maxLen := by rw [bdF_name hq]; have := HNl.out; unfold maxLen; omega
        obtain ⟨am, nm', cm, rfl⟩ := ms_form (hM6 _ (Chg.refl _ _))
        have HM6 : Hid (∀ W, Chg (fun b => b < w5.heap.size) w6 W → MsR W (.slice am nm' cm) q) := hM6
        clear hq hM6 hC6 r5
        go_wp2_with (refine wpList_loadG 25 _ rfl rfl (paC q (.slice am nm' cm)) r6 Tryz.underlying25 rfl (paInfo q _) (by go_simp; done) ?_)
        refine (writable_any q _ _ rfl hqn _ (HM6.out _ (Chg.refl _ _))).mono ?_
        rintro e w7 ⟨rfl, b7⟩
        replace r6 := r6.kept b7
        have HR7 : Hid (BlkAt g2 25 (paC zeP (.slice none 0 0)) w7) := HR6.out.kept b7
        have HB7 : Hid (Below w.heap.size w w7) := stepB HB6.out b7
        have HM7 : Hid (∀ W, Chg (fun b => b < w5.heap.size) w7 W → MsR W (.slice am nm' cm) q) := fun W hW => HM6.out W ((Chg.of_below b7).trans hW)
        obtain ⟨y, hy⟩ : ∃ y : Bool, y = wrB q := ⟨_, rfl⟩
        rw [← hy] at HQ ⊢
        clear hy b7 HR6 HB6 HM6
        cases y with
        | false =>
          have HE : Hid (rdF ls = none) := by show _ = _; rw [HQ.out]; rfl
          have bp0 := fun w => buildPa w
          clear r6
          go_wp2_with (refine wpList_store_part rfl 25 _ _ rfl rfl (paC zeP (.slice none 0 0)) rfl [] (paC zeP (.slice none 0 0)) [] (paC zeP (.slice none 0 0)) HR7.out (whole15 _) (whole15 _) rfl rfl (paInfo _ _) (paC_all _ _ _ _) ?_)
          intro w8 r8 hw8
          have HB8 : Hid (Below w.heap.size w w8) := hw8.below _ _ (by have := HG2.out; omega) HB7.out
          go_wp2
          refine bodyPost_blk2 rfl rfl rfl rfl r8 Tryz.underlying25 rfl (paInfo _ _) ?_
          exact ⟨HB8.out, .inr ⟨HE.out, rfl⟩⟩
        | true =>
          have HE : Hid (rdF ls = some q) := by show _ = _; rw [HQ.out]; rfl
          go_wp2_with (first
            | refine wpList_load_part rfl 25 _ rfl rfl [] (paC q (.slice am nm' cm)) [] r6 (whole15 _) rfl Tryz.underlying25 rfl (paInfo q _) ?_
            | refine wpList_store_part rfl 25 _ _ rfl rfl (paC q (.slice am nm' cm)) rfl [] (paC zeP (.slice none 0 0)) [] (paC q (.slice am nm' cm)) HR7.out (whole15 _) (whole15 _) rfl rfl (paInfo zeP (.slice none 0 0)) (paC_all _ _ _ _) ?_)
          intro w8 r8 hw8
          have HB8 : Hid (Below w.heap.size w w8) := hw8.below _ _ (by have := HG2.out; omega) HB7.out
          have HM8 : Hid (∀ W, Chg (fun b => b < w.heap.size) w8 W → MsR W (.slice am nm' cm) q) := by
            show ∀ W, _
            intro W hW
            have h5 := HB5.out.size
            have h6 := HR5.out.lt
            exact HM7.out W (((Chg.of_wrote hw8).mono fun k _ e => by omega).trans (hW.mono fun k _ e => by omega))
          go_wp2
          refine bodyPost_blk2 rfl rfl rfl rfl r8 Tryz.underlying25 rfl (paInfo _ _) ?_
          exact ⟨HB8.out, .inl ⟨q, _, HE.out, rfl, HM8.out⟩⟩
      · have HE : Hid (rdF ls = none) := by show _ = _; rw [HRd2.out, hq]; rfl
        have bp0 := fun w => buildPa w
        clear r5 hC6
        go_wp2_with (refine wpList_store_part rfl 25 _ _ rfl rfl (paC zeP (.slice none 0 0)) rfl [] (paC zeP (.slice none 0 0)) [] (paC zeP (.slice none 0 0)) HR6.out (whole15 _) (whole15 _) rfl rfl (paInfo _ _) (paC_all _ _ _ _) ?_)
        intro w8 r8 hw8
        have HB8 : Hid (Below w.heap.size w w8) := hw8.below _ _ (by have := HG2.out; omega) HB6.out
        go_wp2
        refine bodyPost_blk2 rfl rfl rfl rfl r8 Tryz.underlying25 rfl (paInfo _ _) ?_
        exact ⟨HB8.out, .inr ⟨HE.out, rfl⟩⟩
end Go.Proofs.YtpoibhhijidobabGreatDoor

/- The pattern of a text: contracts of package pattern, twenty-third part. -/
namespace Go.Proofs.YtpoibhhijidobabGreatDoor
open Go.ChangeShapes Go.WideShapes Go.ChangeAt Go.RowKit
set_option linter.unusedSimpArgs false
set_option linter.unusedVariables false

set_option maxRecDepth 100000 in
set_option maxHeartbeats 8000000 in
theorem parse_any (s : List UInt8) (hs : s.length ≤ maxLen) (w : World) (hT : TkT w) :
    Calls Tryz.prog 10 #[.string ⟨s.toArray⟩] w fun e w' => ∃ vm, e = .returned (.tuple #[.agg (paC (psQ s).1 vm).toArray, .int .i64 (psQ s).2]) ∧ MsR w' vm (psQ s).1 ∧ Below w.heap.size w w' := by
  obtain ⟨L, hL⟩ : ∃ L : Nat, L = s.length := ⟨_, rfl⟩
  have HL : Hid (L = s.length) := hL
  unfold maxLen at hs
  rw [← hL] at hs
  have HT : Hid (TkT w) := hT
  obtain ⟨SB, hSB⟩ : ∃ B : ByteArray, B = ⟨s.toArray⟩ := ⟨_, rfl⟩
  have hsz : SB.size = L := by rw [hSB, hL]; exact str_size _
  have HSB : Hid (SB = ⟨s.toArray⟩) := hSB
  rw [← hSB]
  clear hL hT hSB
  go_enter Tryz.func10, Tryz.ntmps10
  go_wp2_with (refine wpList_alloc_blk rfl 25 rfl (paC zeP (.slice none 0 0)) (allocPa _) ?_)
  intro w1 r1 b1 s1
  have HB1 : Hid (Below w.heap.size w w1) := b1
  have HT1 : Hid (TkT w1) := HT.out.kept b1
  obtain ⟨g2, hg2⟩ : ∃ g : Nat, g = w.heap.size := ⟨_, rfl⟩
  rw [← hg2] at r1 ⊢
  have hgw : w.heap.size ≤ g2 := by omega
  have hgl : g2 < w1.heap.size := r1.lt
  have bp0 := fun w => buildPa w
  clear b1 s1 hg2 HT
  by_cases h4 : 4096 < L
  · have d1 : decide ((4096 : Int) < (L : Int)) = true := decide_eq_true (by omega)
    have d2 : (4096 : Int) < (L : Int) := by omega
    have HQ : Hid (psQ s = (zeP, 1)) := by show _ = _; unfold psQ; rw [if_pos (by rw [← HL.out]; exact h4)]
    go_wp2_with (refine wpList_store_part rfl 25 _ _ rfl rfl (paC zeP (.slice none 0 0)) rfl [] (paC zeP (.slice none 0 0)) [] (paC zeP (.slice none 0 0)) r1 (whole15 _) (whole15 _) rfl rfl (paInfo _ _) (paC_all _ _ _ _) ?_)
    intro w3 r3 hw3
    have HB3 : Hid (Below w.heap.size w w3) := hw3.below _ _ hgw HB1.out
    go_wp2
    refine bodyPost_blk2 rfl rfl rfl rfl r3 Tryz.underlying25 rfl (paInfo _ _) ?_
    exact ⟨.slice none 0 0, by rw [HQ.out]; rfl, by rw [HQ.out]; exact zeP_ms _, HB3.out⟩
  · have d1 : decide ((4096 : Int) < (L : Int)) = false := decide_eq_false (by omega)
    have d2 : (L : Int) ≤ 4096 := by omega
    have hsl : s.length ≤ 4096 := by rw [← HL.out]; omega
    have HQ : Hid (psQ s = psO (rdF (lnS s))) := by show _ = _; unfold psQ; rw [if_neg (by omega)]
    have HLn : Hid ((lnS s).length ≤ 4097 ∧ ∀ x ∈ lnS s, x.length ≤ 4096) := by
      refine ⟨?_, fun x hx => Nat.le_trans (lnL_mem hx).2 hsl⟩
      rw [← lnT_end s]
      have h1 := lnT_le (splL 10 s) (splL 10 s).length
      have h2 := splL_count 10 s
      omega
    go_wp2_with fail
    rw [HSB.out]
    refine (linesOf_any s hsl _ HT1.out).mono ?_
    rintro e w2 ⟨v, rfl, hO⟩
    rw [← HSB.out]
    have r2 := r1.kept hO.below
    have HB2 : Hid (Below w.heap.size w w2) := stepB HB1.out hO.below
    have HT2 : Hid (TkT w2) := HT1.out.kept hO.below
    have HO2 : Hid (OwnG w1 [Rw.st v (lnS s)] w2) := hO
    have hgl2 : g2 < w2.heap.size := r2.lt
    clear hO r1 hsl
    go_wp2_with fail
    refine (read_any (lnS s) v HLn.out.1 HLn.out.2 w1 _ HO2.out HT2.out).mono ?_
    rintro e w3 ⟨b3, hcase⟩
    replace r2 := r2.kept b3
    have HB3 : Hid (Below w.heap.size w w3) := stepB HB2.out b3
    have HSz3 : Hid (w2.heap.size ≤ w3.heap.size) := b3.size
    have HGl3 : Hid (g2 < w3.heap.size) := r2.lt
    clear b3 HO2 HT2
    rcases hcase with ⟨q, vm, hq, rfl, hM⟩ | ⟨hq, rfl⟩
    · have HQ2 : Hid (psQ s = (q, 0)) := by show _ = _; rw [HQ.out, hq]; rfl
      obtain ⟨am, nm', cm, rfl⟩ := ms_form (hM _ (Chg.refl _ _))
      have HM : Hid (∀ W, Chg (fun b => b < w2.heap.size) w3 W → MsR W (.slice am nm' cm) q) := hM
      clear hM hq
      go_wp2_with (refine wpList_alloc_blk rfl 25 rfl (paC zeP (.slice none 0 0)) (allocPa _) ?_)
      intro w4 r4 b4 s4
      have r2' := r2.kept b4
      go_wp2_with (refine wpList_store_part rfl 25 _ _ rfl rfl (paC q (.slice am nm' cm)) rfl [] (paC zeP (.slice none 0 0)) [] (paC q (.slice am nm' cm)) r4 (whole15 _) (whole15 _) rfl rfl (paInfo zeP (.slice none 0 0)) (paC_all _ _ _ _) ?_)
      intro w5 r5 hw5
      have r2'' := r2'.wrote hw5 (by have := HGl3.out; omega)
      have HC5 : Hid (Chg (fun b => b < w2.heap.size) w3 w5) := (Chg.of_below b4).step (Chg.of_wrote hw5) (fun i hi e => by omega)
      have HB5 : Hid (Below w.heap.size w w5) := hw5.below _ _ HB3.out.size (stepB HB3.out b4)
      clear r4 b4 s4 hw5 r2 r2'
      go_wp2_with (first
        | refine wpList_load_part rfl 25 _ rfl rfl [] (paC q (.slice am nm' cm)) [] r5 (whole15 _) rfl Tryz.underlying25 rfl (paInfo q _) ?_
        | refine wpList_store_part rfl 25 _ _ rfl rfl (paC q (.slice am nm' cm)) rfl [] (paC zeP (.slice none 0 0)) [] (paC q (.slice am nm' cm)) r2'' (whole15 _) (whole15 _) rfl rfl (paInfo zeP (.slice none 0 0)) (paC_all _ _ _ _) ?_)
      intro w8 r8 hw8
      have HB8 : Hid (Below w.heap.size w w8) := hw8.below _ _ hgw HB5.out
      have HM8 : Hid (MsR w8 (.slice am nm' cm) q) := HM.out _ (HC5.out.trans ((Chg.of_wrote hw8).mono fun k _ e => by omega))
      go_wp2
      refine bodyPost_blk2 rfl rfl rfl rfl r8 Tryz.underlying25 rfl (paInfo _ _) ?_
      exact ⟨_, by rw [HQ2.out]; rfl, by rw [HQ2.out]; exact HM8.out, HB8.out⟩
    · have HQ2 : Hid (psQ s = (zeP, 20)) := by show _ = _; rw [HQ.out, hq]; rfl
      clear hq
      go_wp2_with (refine wpList_alloc_blk rfl 25 rfl (paC zeP (.slice none 0 0)) (allocPa _) ?_)
      intro w4 r4 b4 s4
      have r2' := r2.kept b4
      go_wp2_with (refine wpList_store_part rfl 25 _ _ rfl rfl (paC zeP (.slice none 0 0)) rfl [] (paC zeP (.slice none 0 0)) [] (paC zeP (.slice none 0 0)) r4 (whole15 _) (whole15 _) rfl rfl (paInfo zeP (.slice none 0 0)) (paC_all _ _ _ _) ?_)
      intro w5 r5 hw5
      have r2'' := r2'.wrote hw5 (by have := HGl3.out; omega)
      have HB5 : Hid (Below w.heap.size w w5) := hw5.below _ _ HB3.out.size (stepB HB3.out b4)
      clear r4 b4 s4 hw5 r2 r2' r5
      go_wp2_with (refine wpList_store_part rfl 25 _ _ rfl rfl (paC zeP (.slice none 0 0)) rfl [] (paC zeP (.slice none 0 0)) [] (paC zeP (.slice none 0 0)) r2'' (whole15 _) (whole15 _) rfl rfl (paInfo _ _) (paC_all _ _ _ _) ?_)
      intro w8 r8 hw8
      have HB8 : Hid (Below w.heap.size w w8) := hw8.below _ _ hgw HB5.out
      go_wp2
      refine bodyPost_blk2 rfl rfl rfl rfl r8 Tryz.underlying25 rfl (paInfo _ _) ?_
      exact ⟨.slice none 0 0, by rw [HQ2.out]; rfl, by rw [HQ2.out]; exact zeP_ms _, HB8.out⟩
end Go.Proofs.YtpoibhhijidobabGreatDoor

/- A pattern's text: contracts of package pattern, fourteenth part. -/
namespace Go.Proofs.YtpoibhhijidobabGreatDoor
open Go.ChangeShapes Go.WideShapes Go.ChangeAt Go.RowKit
set_option linter.unusedSimpArgs false
set_option linter.unusedVariables false

/-- Elements of one cell, some or none, are appended to the first one. -/
theorem wp_append_C {P : Program} {w0 wr : World} {L : List Rw} {o : Oper} {a : Act} {K : Act → World → Prop} {Q : Exit → Act → World → Prop} (s x : Operand) (t : TypeId)
    (ho : o.op = .call { callee := .builtin .append, args := #[s, x], argTypes := #[t, t] }) (e : TypeId) (i : TypeInfo) (z : Value) (bytes : Nat) (ht : P.underlying t = some (.slice e)) (hi : P.info? e = some i) (hz : i.zero = some z)
    (hsize : i.size = 1) (hby : i.bytes = bytes) (hzs : z.cells.size = 1) (v : Value) (n : Nat) (xs : List Value) (hs : a.eval s = v) (hO : OwnG w0 (⟨e, 1, v, n, xs⟩ :: L) wr)
    (vx : Value) (news : List Value) (hx : a.eval x = vx) (hR : RdC wr vx news) (h1 : ∀ u ∈ news, u.oneCell' = true)
    (h63 : n + news.length ≤ maxLen) (hbytes : (n + news.length) * bytes ≤ 140737488355328)
    (h : ∀ v' w', OwnG w0 (⟨e, 1, v', n + news.length, xs ++ news⟩ :: L) w' → Chg (fun b => some b = v.ownBlock) wr w' → K (a.put o.dst v') w') : o.wp P a wr K Q := by
  obtain ⟨ax, cap, rfl, h2, h3, h4, h5⟩ := hR
  cases ax with
  | none =>
    have h0 := h4 rfl
    subst h0
    have hl2 : news = [] := List.eq_nil_of_length_eq_zero (by omega)
    subst hl2
    have hrun := run_append_owned_none (P := P) (w := wr) w0.heap.size t o.type e i 1 ht hi v n _ (hO.rows _ (List.mem_cons_self ..))
    have hx' : a.eval x = .slice none 0 0 := hx
    unfold Oper.wp
    simp [execOp, ho, resolve, invoke, builtin, hs, hx', hrun, Result.andThen]
    exact h v wr (by simpa using hO) (Chg.refl _ _)
  | some ad =>
    refine wp_append_E s x t ho e i z 1 bytes ht hi hz hsize hby hzs (by decide) v n xs hs hO ad news.length cap news hx (by simp) (fun j u hj => ?_) h1 h63 hbytes h
    have hjl : j < news.length := by
      rcases Nat.lt_or_ge j news.length with h | h
      · exact h
      · simp [List.getElem?_eq_none h] at hj
    rcases h5 with rfl | ⟨b, off, e1, hc⟩
    · simp at hjl
    · simp only [Option.some.injEq] at e1
      subst e1
      have hplain : (⟨b, off, none⟩ : Addr).add j = ⟨b, off + j, none⟩ := by unfold Addr.add; split <;> simp_all
      rw [hplain, hc j hjl, hj]
/-- The lines ahead of the messages; the first messages' lines. -/
def hdL (p : Ptn) : List (List UInt8) := (p.name ++ [58]) :: knA p.ki p.kr
def msS (p : Ptn) : Nat → List (List UInt8)
  | 0 => []
  | i + 1 => msS p i ++ [mlL (p.ini i) (p.tk i)]
theorem msS_len (p : Ptn) : ∀ i, (msS p i).length = i
  | 0 => rfl
  | i + 1 => by
    show (msS p i ++ _).length = _
    rw [List.length_append, msS_len p i]
    rfl
theorem hd_start {w0 w : World} {v : Value} {p : Ptn} (h : OwnG w0 [Rw.st v (hdL p)] w) : OwnG w0 [Rw.st v (hdL p ++ msS p 0)] w := by
  rw [show hdL p ++ msS p 0 = hdL p from List.append_nil _]
  exact h
theorem jn_end : ∀ (ls : List (List UInt8)), ls ≠ [] → jnL [10] ls ++ [10] = (ls.map fun l => l ++ [10]).flatten
  | [], h => absurd rfl h
  | [a], _ => by rw [jn_one]; simp
  | a :: b :: r, _ => by
    rw [jn_cons]
    have ih := jn_end (b :: r) (by simp)
    rw [List.append_assoc, List.append_assoc, ih]
    simp
theorem ms_tx (p : Ptn) : ∀ i, ((msS p i).map fun l => l ++ [10]).flatten = txS p i
  | 0 => rfl
  | i + 1 => by
    show ((msS p i ++ [mlL (p.ini i) (p.tk i)]).map _).flatten = txS p i ++ txM p i
    rw [List.map_append, List.flatten_append, ms_tx p i]
    simp [mlL, txM]
theorem hd_tx (p : Ptn) : ((hdL p).map fun l => l ++ [10]).flatten = txA p := by
  unfold hdL knA txA
  cases p.ki <;> cases p.kr <;> simp [knS, mlL, txD, txR, wdL]
theorem tx_all (p : Ptn) : jnL [10] (hdL p ++ msS p p.n) ++ [10] = txA p ++ txS p p.n := by
  rw [jn_end _ (by simp [hdL]), List.map_append, List.flatten_append, hd_tx, ms_tx]
/-- What is read of a message while its line is told. -/
structure Cm (g : Nat) (q : Bool) (v : Value) (W : World) : Prop where
  ini : W.cell? ⟨g, 0, none⟩ = some (.bool q)
  tok : W.cell? ⟨g, 1, none⟩ = some v
theorem Cm.kept {g : Nat} {q : Bool} {v : Value} {W W' : World} (h : Cm g q v W) (hb : Below W.heap.size W W') : Cm g q v W' := ⟨cellKP h.ini hb, cellKP h.tok hb⟩
theorem Cm.chg {S : Nat → Prop} {g : Nat} {q : Bool} {v : Value} {W W' : World} (h : Cm g q v W) (c : Chg S W W') (h1 : ¬ S g) : Cm g q v W' := ⟨cell_chg c h.ini h1, cell_chg c h.tok h1⟩
theorem stC_one (ls : List (List UInt8)) : ∀ u ∈ stC ls, u.oneCell' = true := by
  intro u hu
  obtain ⟨l, -, rfl⟩ := List.mem_map.1 hu
  rfl
theorem knA_len (ki kr : Bool) : (knA ki kr).length ≤ 3 := by
  unfold knA
  have := knS_len ki kr 2
  cases ki <;> cases kr <;> simp at this ⊢ <;> omega

set_option maxRecDepth 100000 in
set_option maxHeartbeats 8000000 in
theorem text_any (p : Ptn) (vm : Value) (A : Array Value) (hA : A = (paC p vm).toArray) (hnm : p.name.length ≤ maxLen) (w : World) (h : MsR w vm p) (hT : TkT w) :
    Calls Tryz.prog 9 #[.agg A] w fun e w' => e = .returned (.string ⟨(txT p).toArray⟩) ∧ Below w.heap.size w w' := by
  obtain ⟨ti, hti, hz0, hz1, hz2⟩ := info_parts infoStr
  obtain ⟨a, cap, rfl, hl, hm, -⟩ := id h.form
  obtain ⟨n, hn⟩ : ∃ n : Nat, n = p.n := ⟨_, rfl⟩
  rw [← hn] at h hl hA
  have HN : Hid (n = p.n) := hn
  unfold maxLen at hm
  have HM : Hid (MsR w (.slice a n cap) p) := h
  have HNm : Hid (p.name.length ≤ maxLen) := hnm
  have HT : Hid (TkT w) := hT
  clear h hn hnm hT
  go_enter Tryz.func9, Tryz.ntmps9
  go_wp2_with (refine wpList_box_blk rfl 25 _ rfl (paC p (.slice a n cap)) (by rw [← hA]; rfl) ?_)
  intro w1 r1 b1 s1
  have HM1 : Hid (MsR w1 (.slice a n cap) p) := HM.out.kept b1
  clear s1 hA HM
  go_wp2_with (refine wpList_load_part rfl 25 _ rfl rfl [] (paC p (.slice a n cap)) [] r1 (whole15 _) rfl Tryz.underlying25 rfl (paInfo p _) ?_)
  refine (writable_any p _ _ rfl HNm.out _ HM1.out).mono ?_
  rintro e w2 ⟨rfl, b2⟩
  replace r1 := r1.kept b2
  have HM2 : Hid (MsR w2 (.slice a n cap) p) := HM1.out.kept b2
  have HB2 : Hid (Below w.heap.size w w2) := stepB b1 b2
  have HT2 : Hid (TkT w2) := HT.out.kept HB2.out
  obtain ⟨y, hy⟩ : ∃ y : Bool, y = wrB p := ⟨_, rfl⟩
  rw [← hy]
  have HY : Hid (y = wrB p) := hy
  clear hy b2 HM1 b1 HT
  cases y with
  | false =>
    have HF : Hid (txT p = []) := by show _ = _; unfold txT; rw [if_neg (by rw [← HY.out]; simp)]
    go_wp2
    go_ret
    exact ⟨by rw [HF.out]; rfl, HB2.out⟩
  | true =>
    have HS : Hid (PtS p) := PtS.of HY.out.symm
    have HNl : Hid (p.name.length ≤ 32) := by
      have h1 := HY.out.symm
      rw [wrB_eq] at h1
      simp only [Bool.and_eq_true] at h1
      have h2 := h1.1.1
      unfold nmB at h2
      simp only [Bool.and_eq_true, decide_eq_true_eq] at h2
      exact h2.1.2
    obtain ⟨SB, hSB⟩ : ∃ B : ByteArray, B = ⟨p.name.toArray⟩ := ⟨_, rfl⟩
    obtain ⟨NB, hNB⟩ : ∃ B : ByteArray, B = ⟨(p.name ++ [58]).toArray⟩ := ⟨_, rfl⟩
    have a1 := addP p.name [58] _ SB ⟨#[58]⟩ NB hSB rfl hNB rfl (by have := HNl.out; omega) (by decide)
    have c0 : w2.cell? ⟨w.heap.size, 0, none⟩ = some (.string SB) := by rw [hSB]; exact r1.cell 0
    have k1 : w2.cell? ⟨w.heap.size, 1, none⟩ = some (.bool p.ki) := r1.cell 1
    have k2 : w2.cell? ⟨w.heap.size, 2, none⟩ = some (.bool p.kr) := r1.cell 2
    have c3 : w2.cell? ⟨w.heap.size, 3, none⟩ = some (.slice a n cap) := r1.cell 3
    have HNB : Hid (NB = ⟨(p.name ++ [58]).toArray⟩) := hNB
    have HC3 : Hid (w2.cell? ⟨w.heap.size, 3, none⟩ = some (.slice a n cap)) := c3
    have hKl := knA_len p.ki p.kr
    clear hSB hNB r1 c3
    go_upto_region 3 with fail
    go_cut [3] (fun v wx => OwnG w2 [Rw.st v (hdL p)] wx)
    case first =>
      have hO := OwnG.start w2
      replace hO := hO.drew
      have hB : Below w2.heap.size w2 w2.drew := (Below.refl _ _).drew
      refine wpB_begin (Below.refl w2.heap.size w2) (by kernel_rfl) ?_
      refine wpB_take (hb := hB) (i := 0) (oi := { dst := some 9, op := Op.fieldAddr 25 (Operand.tmp 1) 0, type := 0, pos := "text.go:183", after := #[], guard := none }) (v := ?_) rfl (by kernel_rfl) (by kernel_rfl) (by kernel_rfl) (by rfl) ?_ ?_
      rotate_left
      · intro W hW; first | (go_simp; done) | (go_simp; with_reducible rfl)
      try simp only [Act.put, List.setIfInBounds_toArray, List.set_cons_zero, List.set_cons_succ]
      refine wpB_take (hb := hB) (i := 1) (oi := { dst := some 10, op := Op.load 9 (Operand.tmp 9), type := 9, pos := "text.go:183", after := #[{ on := 0, ground := Ground.data }], guard := none }) (v := ?_) rfl (by kernel_rfl) (by kernel_rfl) (by kernel_rfl) (by rfl) ?_ ?_
      rotate_left
      · intro W hW; have hcW := cellKP c0 hW; first | (go_simp; done) | (go_simp; with_reducible rfl)
      try simp only [Act.put, List.setIfInBounds_toArray, List.set_cons_zero, List.set_cons_succ]
      refine wpB_take (hb := hB) (i := 2) (oi := { dst := some 11, op := Op.binOp BinOp.add 9 (Operand.tmp 10) (Operand.const (Value.string { data := #[58] })) 9, type := 9, pos := "text.go:183", after := #[{ on := 1, ground := Ground.data }], guard := none }) (v := ?_) rfl (by kernel_rfl) (by kernel_rfl) (by kernel_rfl) (by rfl) ?_ ?_
      rotate_left
      · intro W hW; have ha := a1 W; first | (go_simp; done) | (go_simp; with_reducible rfl)
      try simp only [Act.put, List.setIfInBounds_toArray, List.set_cons_zero, List.set_cons_succ]
      refine wpB_take (hb := hB) (i := 4) (oi := { dst := some 13, op := Op.fieldAddr 25 (Operand.tmp 1) 1, type := 0, pos := "text.go:183", after := #[], guard := none }) (v := ?_) rfl (by kernel_rfl) (by kernel_rfl) (by kernel_rfl) (by rfl) ?_ ?_
      rotate_left
      · intro W hW; first | (go_simp; done) | (go_simp; with_reducible rfl)
      try simp only [Act.put, List.setIfInBounds_toArray, List.set_cons_zero, List.set_cons_succ]
      refine wpB_take (hb := hB) (i := 5) (oi := { dst := some 14, op := Op.load 22 (Operand.tmp 13), type := 22, pos := "text.go:183", after := #[{ on := 4, ground := Ground.data }], guard := none }) (v := ?_) rfl (by kernel_rfl) (by kernel_rfl) (by kernel_rfl) (by rfl) ?_ ?_
      rotate_left
      · intro W hW; have h1 := cellKP k1 hW; have h2 := cellKP k2 hW; first | (go_simp; done) | (go_simp; with_reducible rfl)
      try simp only [Act.put, List.setIfInBounds_toArray, List.set_cons_zero, List.set_cons_succ]
      refine wpB_fork (i := 3) (j := 6) (oi := { dst := some 12, op := Op.buildSlice 54 1 #[(0, Operand.tmp 11)], type := 54, pos := "text.go:183", after := #[{ on := 2, ground := Ground.data }], guard := none }) (oj := { dst := some 15, op := Op.call { callee := Callee.value (Operand.func 21), args := #[Operand.tmp 14], argTypes := #[22] }, type := 54, pos := "text.go:183", after := #[{ on := 5, ground := Ground.data }], guard := none }) (by kernel_rfl) rfl rfl (by rfl) (by rfl) (fun K hK => ?_) (fun K hK => ?_)
      · go_simp
        replace hO := hO.lit 9 1 1 _ [.string NB] _ rfl rfl (by unfold maxLen; omega) rfl
        replace hB := stepB hB (growB (.cells #[.string NB] 9))
        refine hK.out _ _ hB ?_
        clear hK K
        try simp only [Act.put, List.setIfInBounds_toArray, List.set_cons_zero, List.set_cons_succ]
        refine wpB_do (i := 6) (o := { dst := some 15, op := Op.call { callee := Callee.value (Operand.func 21), args := #[Operand.tmp 14], argTypes := #[22] }, type := 54, pos := "text.go:183", after := #[{ on := 5, ground := Ground.data }], guard := none }) (by kernel_rfl) rfl (by rfl) fun K hK => ?_
        go_simp
        refine (knownLines_any p.ki p.kr _ rfl _ (HT2.out.kept hB)).mono ?_
        rintro e wk ⟨vk, rfl, hOk⟩
        replace hO := hO.fresh (p := Rw.st vk (knA p.ki p.kr)) (hOk.rows _ (List.mem_cons_self ..)) hOk.below
        replace hB := stepB hB hOk.below
        clear hOk
        refine hK.out _ _ hB ?_
        clear hK K
        try simp only [Act.put, List.setIfInBounds_toArray, List.set_cons_zero, List.set_cons_succ]
        refine wpB_do (i := 7) (o := { dst := some 16, op := Op.call { callee := Callee.builtin Builtin.append, args := #[Operand.tmp 12, Operand.tmp 15], argTypes := #[54, 54] }, type := 54, pos := "text.go:183", after := #[{ on := 3, ground := Ground.data }, { on := 6, ground := Ground.data }, { on := 6, ground := Ground.chain }], guard := none }) (by kernel_rfl) rfl (by rfl) fun K hK => ?_
        have hRk := RdC.of_own (hO.rows (Rw.st vk (knA p.ki p.kr)) (by simp))
        first
          | refine wp_append_C _ _ 54 rfl 9 ti _ 16 Tryz.underlying54 hti hz0 hz1 hz2 rfl _ 1 [.string NB] rfl hO vk (stC (knA p.ki p.kr)) rfl hRk (stC_one _) (by rw [stC_length15]; unfold maxLen; omega) (by rw [stC_length15]; omega) ?_
          | refine wp_append_C _ _ 54 rfl 9 ti _ 16 Tryz.underlying54 hti hz0 hz1 hz2 rfl _ 1 [.string NB] rfl hO.swap vk (stC (knA p.ki p.kr)) rfl hRk (stC_one _) (by rw [stC_length15]; unfold maxLen; omega) (by rw [stC_length15]; omega) ?_
        intro v6 w6 hO6 hC6
        have HF : Hid (OwnG w2 [Rw.st v6 (hdL p)] w6) := by
          have e1 : [.string NB] ++ stC (knA p.ki p.kr) = stC (hdL p) := by rw [HNB.out]; rfl
          have e2 : 1 + (stC (knA p.ki p.kr)).length = (hdL p).length := by rw [stC_length15]; unfold hdL; simp; omega
          rw [e1, e2] at hO6
          exact hO6.swap.tail
        have hB := hO6.below
        clear hO6 hC6 hRk hO
        refine hK.out _ _ hB ?_
        clear hK K
        try simp only [Act.put, List.setIfInBounds_toArray, List.set_cons_zero, List.set_cons_succ]
        refine wpB_take (hb := hB) (i := 8) (oi := { dst := some 3, op := Op.assign (Operand.tmp 16), type := 54, pos := "text.go:183", after := #[{ on := 7, ground := Ground.data }, { on := 7, ground := Ground.chain }, { on := 0, ground := Ground.phase }, { on := 1, ground := Ground.phase }, { on := 2, ground := Ground.phase }, { on := 3, ground := Ground.phase }, { on := 4, ground := Ground.phase }, { on := 5, ground := Ground.phase }, { on := 6, ground := Ground.phase }, { on := 7, ground := Ground.phase }], guard := none }) (v := ?_) rfl (by kernel_rfl) (by kernel_rfl) (by kernel_rfl) (by rfl) ?_ ?_
        rotate_left
        · intro W hW; first | (go_simp; done) | (go_simp; with_reducible rfl)
        try simp only [Act.put, List.setIfInBounds_toArray, List.set_cons_zero, List.set_cons_succ]
        refine wpB_done (by kernel_rfl) ?_
        go_wp2_with fail
        go_meet
        exact HF.out
      · go_simp
        refine (knownLines_any p.ki p.kr _ rfl _ (HT2.out.kept hB)).mono ?_
        rintro e wk ⟨vk, rfl, hOk⟩
        replace hO := hO.fresh (p := Rw.st vk (knA p.ki p.kr)) (hOk.rows _ (List.mem_cons_self ..)) hOk.below
        replace hB := stepB hB hOk.below
        clear hOk
        refine hK.out _ _ hB ?_
        clear hK K
        try simp only [Act.put, List.setIfInBounds_toArray, List.set_cons_zero, List.set_cons_succ]
        refine wpB_do (i := 3) (o := { dst := some 12, op := Op.buildSlice 54 1 #[(0, Operand.tmp 11)], type := 54, pos := "text.go:183", after := #[{ on := 2, ground := Ground.data }], guard := none }) (by kernel_rfl) rfl (by rfl) fun K hK => ?_
        go_simp
        replace hO := hO.lit 9 1 1 _ [.string NB] _ rfl rfl (by unfold maxLen; omega) rfl
        replace hB := stepB hB (growB (.cells #[.string NB] 9))
        refine hK.out _ _ hB ?_
        clear hK K
        try simp only [Act.put, List.setIfInBounds_toArray, List.set_cons_zero, List.set_cons_succ]
        refine wpB_do (i := 7) (o := { dst := some 16, op := Op.call { callee := Callee.builtin Builtin.append, args := #[Operand.tmp 12, Operand.tmp 15], argTypes := #[54, 54] }, type := 54, pos := "text.go:183", after := #[{ on := 3, ground := Ground.data }, { on := 6, ground := Ground.data }, { on := 6, ground := Ground.chain }], guard := none }) (by kernel_rfl) rfl (by rfl) fun K hK => ?_
        have hRk := RdC.of_own (hO.rows (Rw.st vk (knA p.ki p.kr)) (by simp))
        first
          | refine wp_append_C _ _ 54 rfl 9 ti _ 16 Tryz.underlying54 hti hz0 hz1 hz2 rfl _ 1 [.string NB] rfl hO vk (stC (knA p.ki p.kr)) rfl hRk (stC_one _) (by rw [stC_length15]; unfold maxLen; omega) (by rw [stC_length15]; omega) ?_
          | refine wp_append_C _ _ 54 rfl 9 ti _ 16 Tryz.underlying54 hti hz0 hz1 hz2 rfl _ 1 [.string NB] rfl hO.swap vk (stC (knA p.ki p.kr)) rfl hRk (stC_one _) (by rw [stC_length15]; unfold maxLen; omega) (by rw [stC_length15]; omega) ?_
        intro v6 w6 hO6 hC6
        have HF : Hid (OwnG w2 [Rw.st v6 (hdL p)] w6) := by
          have e1 : [.string NB] ++ stC (knA p.ki p.kr) = stC (hdL p) := by rw [HNB.out]; rfl
          have e2 : 1 + (stC (knA p.ki p.kr)).length = (hdL p).length := by rw [stC_length15]; unfold hdL; simp; omega
          rw [e1, e2] at hO6
          exact hO6.swap.tail
        have hB := hO6.below
        clear hO6 hC6 hRk hO
        refine hK.out _ _ hB ?_
        clear hK K
        try simp only [Act.put, List.setIfInBounds_toArray, List.set_cons_zero, List.set_cons_succ]
        refine wpB_take (hb := hB) (i := 8) (oi := { dst := some 3, op := Op.assign (Operand.tmp 16), type := 54, pos := "text.go:183", after := #[{ on := 7, ground := Ground.data }, { on := 7, ground := Ground.chain }, { on := 0, ground := Ground.phase }, { on := 1, ground := Ground.phase }, { on := 2, ground := Ground.phase }, { on := 3, ground := Ground.phase }, { on := 4, ground := Ground.phase }, { on := 5, ground := Ground.phase }, { on := 6, ground := Ground.phase }, { on := 7, ground := Ground.phase }], guard := none }) (v := ?_) rfl (by kernel_rfl) (by kernel_rfl) (by kernel_rfl) (by rfl) ?_ ?_
        rotate_left
        · intro W hW; first | (go_simp; done) | (go_simp; with_reducible rfl)
        try simp only [Act.put, List.setIfInBounds_toArray, List.set_cons_zero, List.set_cons_succ]
        refine wpB_done (by kernel_rfl) ?_
        go_wp2_with fail
        go_meet
        exact HF.out
    case rest =>
      have hO0 := hd_start hcut
      have c3 := cellKP HC3.out hcut.below
      clear hcut a1 c0 k1 k2
      rename World => wn
      have hHd : (hdL p).length ≤ 4 := by unfold hdL; simp; omega
      go_wp2
      go_loopw [3, 20] (fun ov iv wx => ∃ i : Nat, i ≤ n ∧ iv = .int .i64 (i : Int) ∧ OwnG w2 [Rw.st ov (hdL p ++ msS p i)] wx) (fun _ iv _ => n - (intOf iv).toNat)
      case atStart => exact ⟨0, by omega, rfl, hO0⟩
      case round =>
        obtain ⟨i, hi, rfl, hO⟩ := hrel
        clear hO0
        by_cases hlt : i < n
        · have hd : decide ((i : Int) < (n : Int)) = true := decide_eq_true (by omega)
          have hiI : (i : Int) < (n : Int) := by omega
          have HMn : Hid (i < p.n) := by show _ < _; rw [← HN.out]; exact hlt
          obtain ⟨b, off, a', c', rfl, g1, g2, g3, g4, g5⟩ := ms_at HM2.out (k := i) HMn.out
          replace g1 := cellKP g1 hO.below
          replace g2 := cellKP g2 hO.below
          obtain ⟨M, hM⟩ : ∃ M : Nat, M = (p.tk i).length := ⟨_, rfl⟩
          rw [← hM] at g2 g3 g4
          have hM12 : M ≤ 12 := by rw [hM]; exact HS.out.t i HMn.out
          obtain ⟨q, hq⟩ : ∃ q : Bool, q = p.ini i := ⟨_, rfl⟩
          rw [← hq] at g1
          have HQ : Hid (q = p.ini i) := hq
          have HMl : Hid (M = (p.tk i).length) := hM
          have hrg := range_two g1 g2
          have HR : Hid (RdI .i64 w2 (.slice a' M c') (p.tk i)) := g3
          obtain ⟨LL, hLL⟩ : ∃ L : List (List UInt8), L = hdL p ++ msS p i := ⟨_, rfl⟩
          rw [← hLL] at hO
          have hn8 : n ≤ 8 := by rw [HN.out]; exact HS.out.n
          have hLn : LL.length ≤ 12 := by rw [hLL, List.length_append, msS_len]; omega
          have HLL : Hid (LL = hdL p ++ msS p i) := hLL
          have HO : Hid (OwnG w2 [Rw.st u3 LL] wr) := hO
          unfold maxLen at g5
          clear hM hq g1 g2 g3 hLL hO
          go_wp2_with (first
            | refine wpList_load_mid rfl 48 _ rfl b (off + i * 2) rfl [.bool q, .slice a' M c'] _ hrg Tryz.underlying48 rfl infoMsg ?_
            | refine wpList_alloc_blk rfl 48 rfl [.bool false, .slice none 0 0] (allocMsg _) ?_)
          intro w4 r4 b4 s4
          go_wp2_with (refine wpList_store_part rfl 48 _ _ rfl rfl [.bool q, .slice a' M c'] rfl [] [.bool false, .slice none 0 0] [] [.bool q, .slice a' M c'] r4 rfl rfl rfl rfl infoMsg (oneCell2 _ _ _ _) ?_)
          intro w5 r5 hw5
          have hO5 := (HO.out.kept b4).wrote hw5 HO.out.below.size (fun r hr b hb => by have := HO.out.lt r hr b hb; omega)
          obtain ⟨gm, hgm⟩ : ∃ g : Nat, g = wr.heap.size := ⟨_, rfl⟩
          rw [← hgm] at r5 ⊢
          have HFr : Hid (¬ some gm = u3.ownBlock) := fun e => by have := HO.out.lt _ (List.mem_cons_self ..) gm e.symm; omega
          have hS : Cm gm q (.slice a' M c') w5.drew := ⟨r5.cell 0, r5.cell 1⟩
          have hOd : OwnG w2 [⟨9, 1, u3, LL.length, stC LL⟩] w5.drew := hO5.drew
          clear r4 b4 s4 hw5 hrg HO hO5 r5 hgm
          go_wp2_with fail
          refine wpS_begin (Cm gm q (.slice a' M c')) (by kernel_rfl) ?_
          refine wpS_take (hS := hS) (i := 0) (oi := { dst := some 24, op := Op.move (Operand.tmp 3), type := 54, pos := "text.go:185", after := #[], guard := none }) (v := ?_) rfl (by kernel_rfl) (by kernel_rfl) (by kernel_rfl) (by rfl) ?_ ?_
          rotate_left
          · intro W hW; first | (go_simp; done) | (go_simp; with_reducible rfl)
          try simp only [Act.put, List.setIfInBounds_toArray, List.set_cons_zero, List.set_cons_succ]
          refine wpS_take (hS := hS) (i := 1) (oi := { dst := some 25, op := Op.fieldAddr 48 (Operand.tmp 5) 0, type := 0, pos := "text.go:185", after := #[], guard := none }) (v := ?_) rfl (by kernel_rfl) (by kernel_rfl) (by kernel_rfl) (by rfl) ?_ ?_
          rotate_left
          · intro W hW; first | (go_simp; done) | (go_simp; with_reducible rfl)
          try simp only [Act.put, List.setIfInBounds_toArray, List.set_cons_zero, List.set_cons_succ]
          refine wpS_take (hS := hS) (i := 2) (oi := { dst := some 26, op := Op.load 4 (Operand.tmp 25), type := 4, pos := "text.go:185", after := #[{ on := 1, ground := Ground.data }], guard := none }) (v := ?_) rfl (by kernel_rfl) (by kernel_rfl) (by kernel_rfl) (by rfl) ?_ ?_
          rotate_left
          · intro W hW; have cW := hW.ini; first | (go_simp; done) | (go_simp; with_reducible rfl)
          try simp only [Act.put, List.setIfInBounds_toArray, List.set_cons_zero, List.set_cons_succ]
          refine wpS_take (hS := hS) (i := 4) (oi := { dst := some 28, op := Op.fieldAddr 48 (Operand.tmp 5) 1, type := 0, pos := "text.go:185", after := #[], guard := none }) (v := ?_) rfl (by kernel_rfl) (by kernel_rfl) (by kernel_rfl) (by rfl) ?_ ?_
          rotate_left
          · intro W hW; first | (go_simp; done) | (go_simp; with_reducible rfl)
          try simp only [Act.put, List.setIfInBounds_toArray, List.set_cons_zero, List.set_cons_succ]
          refine wpS_take (hS := hS) (i := 5) (oi := { dst := some 29, op := Op.load 46 (Operand.tmp 28), type := 46, pos := "text.go:185", after := #[{ on := 4, ground := Ground.data }], guard := none }) (v := ?_) rfl (by kernel_rfl) (by kernel_rfl) (by kernel_rfl) (by rfl) ?_ ?_
          rotate_left
          · intro W hW; have cW := hW.tok; first | (go_simp; done) | (go_simp; with_reducible rfl)
          try simp only [Act.put, List.setIfInBounds_toArray, List.set_cons_zero, List.set_cons_succ]
          refine wpS_do (i := 3) (o := { dst := some 27, op := Op.call { callee := Callee.value (Operand.func 23), args := #[Operand.tmp 26], argTypes := #[4] }, type := 3, pos := "text.go:185", after := #[{ on := 2, ground := Ground.data }], guard := none }) (by kernel_rfl) rfl (by rfl) fun K hK => ?_
          go_simp
          refine (sideOf_any q _).mono ?_
          rintro e w6 ⟨rfl, rfl⟩
          refine hK.out _ _ hS ?_
          clear hK K
          try simp only [Act.put, List.setIfInBounds_toArray, List.set_cons_zero, List.set_cons_succ]
          refine wpS_do (i := 6) (o := { dst := some 30, op := Op.call { callee := Callee.value (Operand.func 22), args := #[Operand.tmp 27, Operand.tmp 29], argTypes := #[3, 46] }, type := 9, pos := "text.go:185", after := #[{ on := 3, ground := Ground.data }, { on := 5, ground := Ground.data }, { on := 3, ground := Ground.chain }], guard := none }) (by kernel_rfl) rfl (by rfl) fun K hK => ?_
          go_simp
          refine (line_any q _ rfl (p.tk i) _ (by rw [← HMl.out]; exact hM12) (fun j hj => HS.out.x i HMn.out j hj) _ (HR.out.kept hOd.below) (HT2.out.kept hOd.below)).mono ?_
          rintro e w7 ⟨rfl, b7⟩
          replace hS := hS.kept b7
          replace hOd := hOd.kept b7
          obtain ⟨WB, hWB⟩ : ∃ B : ByteArray, B = ⟨(mlL q (p.tk i)).toArray⟩ := ⟨_, rfl⟩
          rw [← hWB]
          have HWB : Hid (WB = ⟨(mlL q (p.tk i)).toArray⟩) := hWB
          clear hWB b7
          refine hK.out _ _ hS ?_
          clear hK K
          try simp only [Act.put, List.setIfInBounds_toArray, List.set_cons_zero, List.set_cons_succ]
          refine wpS_do (i := 7) (o := { dst := some 31, op := Op.buildSlice 54 1 #[(0, Operand.tmp 30)], type := 54, pos := "text.go:185", after := #[{ on := 6, ground := Ground.data }], guard := none }) (by kernel_rfl) rfl (by rfl) fun K hK => ?_
          go_simp
          replace hS := hS.kept (growB (.cells #[.string WB] 9))
          refine hK.out _ _ hS ?_
          clear hK K
          try simp only [Act.put, List.setIfInBounds_toArray, List.set_cons_zero, List.set_cons_succ]
          refine wpS_do (i := 8) (o := { dst := some 32, op := Op.call { callee := Callee.builtin Builtin.append, args := #[Operand.tmp 24, Operand.tmp 31], argTypes := #[54, 54] }, type := 54, pos := "text.go:185", after := #[{ on := 0, ground := Ground.data }, { on := 7, ground := Ground.data }, { on := 6, ground := Ground.chain }], guard := none }) (by kernel_rfl) rfl (by rfl) fun K hK => ?_
          refine wp_append_E _ _ 54 rfl 9 ti _ 1 16 Tryz.underlying54 hti hz0 hz1 hz2 rfl (by decide) _ LL.length (stC LL) rfl (hOd.kept (growB _)) ⟨w7.heap.size, 0, none⟩ 1 1 [.string WB] rfl rfl (news1 _ rfl) (by intro u hu; simp at hu; subst hu; rfl) (by unfold maxLen; omega) (by omega) ?_
          intro v8 w8 hO8 hC8
          replace hS := hS.chg hC8 HFr.out
          refine hK.out _ _ hS ?_
          clear hK K
          try simp only [Act.put, List.setIfInBounds_toArray, List.set_cons_zero, List.set_cons_succ]
          refine wpS_take (hS := hS) (i := 9) (oi := { dst := some 3, op := Op.assign (Operand.tmp 32), type := 54, pos := "text.go:185", after := #[{ on := 8, ground := Ground.data }, { on := 8, ground := Ground.chain }, { on := 0, ground := Ground.phase }, { on := 1, ground := Ground.phase }, { on := 2, ground := Ground.phase }, { on := 3, ground := Ground.phase }, { on := 4, ground := Ground.phase }, { on := 5, ground := Ground.phase }, { on := 6, ground := Ground.phase }, { on := 7, ground := Ground.phase }, { on := 8, ground := Ground.phase }], guard := none }) (v := ?_) rfl (by kernel_rfl) (by kernel_rfl) (by kernel_rfl) (by rfl) ?_ ?_
          rotate_left
          · intro W hW; first | (go_simp; done) | (go_simp; with_reducible rfl)
          try simp only [Act.put, List.setIfInBounds_toArray, List.set_cons_zero, List.set_cons_succ]
          refine wpS_done (by kernel_rfl) ?_
          have hO9 : OwnG w2 [Rw.st v8 (hdL p ++ msS p (i + 1))] w8 := by
            have e1 : hdL p ++ msS p (i + 1) = LL ++ [mlL q (p.tk i)] := by
              show hdL p ++ (msS p i ++ [mlL (p.ini i) (p.tk i)]) = _
              rw [HLL.out, HQ.out, List.append_assoc]
            have e2 : stC LL ++ [.string WB] = stC (LL ++ [mlL q (p.tk i)]) := by rw [HWB.out, stC_next]
            have e3 : LL.length + 1 = (LL ++ [mlL q (p.tk i)]).length := by simp
            rw [e2, e3] at hO8
            rw [e1]
            exact hO8
          clear hO8 hC8 hS hOd HFr
          go_wp2
          go_roundw
          case rel => exact ⟨i + 1, by omega, by go_num, hO9⟩
          case measure => simp [intOf] <;> omega
        · have hd : decide ((i : Int) < (n : Int)) = false := decide_eq_false (by omega)
          have hiI : (n : Int) ≤ (i : Int) := by omega
          have hie : i = p.n := by have := HN.out; omega
          have hn8 : p.n ≤ 8 := HS.out.n
          have HJ : Hid (RdC wr u3 (stC (hdL p ++ msS p p.n))) := by
            have := hO.rdC rfl
            rw [hie] at this
            exact this
          have HB : Hid (Below w.heap.size w wr) := stepB HB2.out hO.below
          have HTl : Hid ((txA p ++ txS p p.n).length ≤ 1000) := by
            show _ ≤ _
            rw [List.length_append]
            have h1 := txA_len HNl.out
            have h2 := txS_len HS.out p.n (Nat.le_refl _)
            omega
          have HJl : Hid ((jnL [10] (hdL p ++ msS p p.n)).length ≤ 1000) := by
            have h1 := congrArg List.length (tx_all p)
            rw [List.length_append] at h1
            have h2 := HTl.out
            show _ ≤ _
            omega
          have HTx : Hid (txT p = jnL [10] (hdL p ++ msS p p.n) ++ [10]) := by show _ = _; rw [tx_all]; unfold txT; rw [if_pos HY.out.symm]
          clear hie hO
          go_wp2_with fail
          refine (join_any [10] (hdL p ++ msS p p.n) u3 _ HJ.out (by rw [List.length_append, msS_len]; omega) (by have := HJl.out; omega)).mono ?_
          rintro e w9 ⟨rfl, b9⟩
          obtain ⟨X1, hX1⟩ : ∃ B : ByteArray, B = ⟨(jnL [10] (hdL p ++ msS p p.n)).toArray⟩ := ⟨_, rfl⟩
          obtain ⟨X2, hX2⟩ : ∃ B : ByteArray, B = ⟨(txT p).toArray⟩ := ⟨_, rfl⟩
          rw [← hX1]
          have a2 := addP _ [10] (txT p) X1 ⟨#[10]⟩ X2 hX1 rfl hX2 HTx.out (by have := HJl.out; omega) (by decide)
          have HX2 : Hid (X2 = ⟨(txT p).toArray⟩) := hX2
          clear hX1 hX2
          go_wp2
          go_ret
          exact ⟨by rw [← HX2.out]; rfl, stepB HB.out b9⟩
end Go.Proofs.YtpoibhhijidobabGreatDoor
