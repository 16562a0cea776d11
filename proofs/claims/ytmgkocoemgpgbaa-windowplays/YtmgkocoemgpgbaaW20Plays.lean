/- Which of any numbers may come, and come, one behind the other: the law's walk. -/
import Derived.Test.YtmgkocoemgpgbaaAw20
import Derived.Test.YtmgkocoemgpgbaaRef20
namespace Go.Proofs.Ytmgkocoemgpgbaa
open Go.ChangeShapes Go.WideShapes Go.ChangeAt Go.RowKit
set_option linter.unusedSimpArgs false
set_option linter.unusedVariables false

set_option maxRecDepth 100000 in
set_option maxHeartbeats 2000000 in
theorem mark20_no (v : Value) (l : List Nat) (hl : ∀ x ∈ l, x < 18446744073709551616) (n : Nat) (hn64 : n < 18446744073709551616) (hok : cmE l n = 43) (w : World) (hr : RdI .u64 w v (nU l)) :
    Calls Try.prog 9 #[v, .int .u64 (n : Int)] w fun e w' => e = .returned (.tuple #[v, .int .i64 43]) ∧ w' = w := by
  have hC := check20_any v l hl n hn64 w hr
  rw [hok] at hC
  obtain ⟨a, c, rfl, -⟩ := id hr
  have HC : Hid (Calls Try.prog 13 #[.slice a (nU l).length c, .int .u64 (n : Int)] w fun e w' => e = .returned (.int .i64 43) ∧ w' = w) := hC
  clear hr hl hC hok
  go_enter Try.func9, Try.ntmps9
  go_wp2_with fail
  refine HC.out.mono ?_
  rintro e w1 ⟨rfl, rfl⟩
  go_wp2
  go_ret2
  exact ⟨rfl, rfl⟩
/-- Numbers in a row of the law's own. -/
def OwN (B : Nat) (v : Value) (l : List Nat) (w : World) : Prop := w.ownsRow B 24 1 v (nU l).length ((nU l).map (Value.int .u64))
theorem OwN.rd {B : Nat} {v : Value} {l : List Nat} {w : World} (h : OwN B v l w) : RdI .u64 w v (nU l) := RdI.of_row h
theorem mark20_row (B : Nat) (v : Value) (l : List Nat) (hl : ∀ x ∈ l, x < 18446744073709551616) (hlen : l.length ≤ 1000000) (n : Nat) (hn64 : n < 18446744073709551616) (w : World) (hB : B ≤ w.heap.size) (hr : OwN B v l w) :
    Calls Try.prog 9 #[v, .int .u64 (n : Int)] w fun e w' => ∃ v', e = .returned (.tuple #[v', .int .i64 (mkL l n).2]) ∧ OwN B v' (mkL l n).1 w' ∧ Below w.heap.size w w' := by
  have HM : mkL l n = if cmE l n = 0 then (l ++ [n], 0) else (l, cmE l n) := rfl
  rcases cmE_ways l n with ⟨h, -⟩ | ⟨h, -⟩
  · rw [h, if_neg (by decide)] at HM
    rw [HM]
    refine (mark20_no v l hl n hn64 h w hr.rd).mono ?_
    rintro e w' ⟨rfl, rfl⟩
    exact ⟨v, rfl, hr, Below.refl _ _⟩
  · rw [h, if_pos rfl] at HM
    rw [HM]
    refine (mark20_new v l hl hlen n hn64 h w hr.rd).mono ?_
    rintro e w' ⟨v', rfl, h1⟩
    exact ⟨v', rfl, own_mono h1.1 hB, h1.2⟩
/-- What stands behind the law while it runs: a window, and the numbers that came. -/
structure Pl20 (w0 : World) (g : Nat) (l : List Nat) (v : Value) (w : World) : Prop where
  win : WnB w0 g l w
  row : OwN (g + 1) v l w
  lim : ∀ x ∈ l, x < 18446744073709551616
theorem Pl20.kept {w0 w w' : World} {g : Nat} {l : List Nat} {v : Value} (h : Pl20 w0 g l v w) (hb : Below w.heap.size w w') : Pl20 w0 g l v w' :=
  ⟨⟨h.win.win.kept hb, h.win.new, stepB h.win.below hb⟩, own_chg h.row (Chg.of_below (S := fun _ => False) hb) fun _ _ => id, h.lim⟩
theorem mk_lim {l : List Nat} {n : Nat} (hl : ∀ x ∈ l, x < 18446744073709551616) (hn : n < 18446744073709551616) : ∀ x ∈ (mkL l n).1, x < 18446744073709551616 := by
  intro x hx
  rcases (mk_mem l n x).1 hx with h | ⟨rfl, -⟩
  · exact hl x h
  · exact hn
theorem mk_len (l : List Nat) (n : Nat) : (mkL l n).1.length ≤ l.length + 1 := by
  unfold mkL
  split <;> simp
/-- The first of two calls: the window takes a number, the row stays. -/
theorem Pl20.mark {w0 w : World} {g : Nat} {l : List Nat} {v : Value} (h : Pl20 w0 g l v w) (n : Nat) (hn : n < 18446744073709551616) :
    Calls Try.prog 8 #[.pointer (some ⟨g, 0, none⟩), .int .u64 (n : Int)] w fun e w' => e = .returned (.int .i64 (mkL l n).2) ∧ WnB w0 g (mkL l n).1 w' ∧ OwN (g + 1) v l w' := by
  refine (h.win.mark n _ rfl hn).mono ?_
  rintro e w' ⟨rfl, h1, h2⟩
  refine ⟨rfl, h1, own_chg h.row h2 fun b hb hbg => ?_⟩
  have := (World.ownsRow.lt h.row b hb).1
  omega
/-- .. and the row takes it. -/
theorem Pl20.mark2 {w0 w : World} {g : Nat} {l l' : List Nat} {v : Value} (h : WnB w0 g l' w) (h2 : OwN (g + 1) v l w) (hl : ∀ x ∈ l, x < 18446744073709551616) (hlen : l.length ≤ 1000000) (n : Nat) (hn : n < 18446744073709551616) (he : l' = (mkL l n).1) :
    Calls Try.prog 9 #[v, .int .u64 (n : Int)] w fun e w' => ∃ v', e = .returned (.tuple #[v', .int .i64 (mkL l n).2]) ∧ Pl20 w0 g l' v' w' := by
  refine (mark20_row (g + 1) v l hl hlen n hn w h.win.lt h2).mono ?_
  rintro e w' ⟨v', rfl, h3, h4⟩
  subst he
  exact ⟨v', rfl, ⟨h.win.kept h4, h.new, stepB h.below h4⟩, h3, mk_lim hl hn⟩
/-- Numbers that came in. -/
structure NuI (w : World) (v : Value) (xs : List Nat) : Prop where
  rd : RdI .u64 w v (nU xs)
  lim : ∀ x ∈ xs, x < 18446744073709551616
theorem NuI.at {w w' : World} {v : Value} {xs : List Nat} {a : Option Addr} {n c : Nat} (h : NuI w v xs) (hv : v = .slice a n c) (hb : Below w.heap.size w w') {i : Nat} (hi : i < xs.length) :
    ∃ b off, a = some ⟨b, off, none⟩ ∧ w'.cell? ⟨b, off + i, none⟩ = some (.int .u64 ((xs.getD i 0 : Nat) : Int)) ∧ xs.getD i 0 < 18446744073709551616 := by
  obtain ⟨a', c', e1, h2, h3, -, h5⟩ := h.rd.kept hb
  rw [hv] at e1
  simp only [Value.slice.injEq] at e1
  obtain ⟨rfl, -, -⟩ := e1
  rcases h5 with h5 | ⟨b, off, rfl, hc⟩
  · have := nU_length xs
    rw [h5] at this
    simp at this
    omega
  · refine ⟨b, off, rfl, by rw [hc i (by rw [nU_length]; exact hi), nU_getD], ?_⟩
    have : xs.getD i 0 = xs[i] := by simp [hi]
    rw [this]
    exact h.lim _ (List.getElem_mem hi)

/-- This world and no other. -/
def IsW (v w : World) : Prop := w = v
set_option maxRecDepth 100000 in
set_option maxHeartbeats 16000000 in
theorem plays_walk (vn va : Value) (xs ys : List Nat) (w : World) (hx : NuI w vn xs) (hy : NuI w va ys) :
    Calls Try.prog 3 #[vn, va] w fun e w' => e = .returned (.bool true) ∧ Below w.heap.size w w' := by
  obtain ⟨an, cn, rfl, hn1, hn2, -, -⟩ := id hx.rd
  obtain ⟨aa, ca, rfl, ha1, ha2, -, -⟩ := id hy.rd
  rw [nU_length] at hx hy hn1 ha1 ⊢
  rw [nU_length] at *
  unfold maxLen at hn2 ha2
  obtain ⟨N, hN⟩ : ∃ N : Nat, N = xs.length := ⟨_, rfl⟩
  obtain ⟨A, hA⟩ : ∃ N : Nat, N = ys.length := ⟨_, rfl⟩
  rw [← hN] at hx hn1 ⊢
  rw [← hA] at hy ha1 ⊢
  have HN : Hid (N = xs.length) := hN
  have HA : Hid (A = ys.length) := hA
  have HX : Hid (NuI w (.slice an N cn) xs) := hx
  have HY : Hid (NuI w (.slice aa A ca) ys) := hy
  clear hx hy hN hA
  go_enter Try.func3, Try.ntmps3
  go_wp2_with fail
  refine (awake_any w).mono ?_
  rintro e wa ⟨rfl, ba⟩
  have HB : Hid (Below w.heap.size w wa) := ba
  clear ba
  go_wp2_with (refine wpList_alloc_blk rfl 27 rfl (wnC 0 0 0) (alloc_wn _) ?_)
  intro w1 r1 b1 s1
  have hW := WnB.start HB.out r1 b1
  generalize wa.heap.size = g at hW ⊢
  have HP : Hid (Pl20 w g [] (.slice none 0 0) w1) := ⟨hW, World.ownsRow_nil _ _ _ _, fun x hx => by cases hx⟩
  clear r1 b1 s1 HB hW
  go_wp2
  go_loopw [7, 8] (fun lv iv wr => ∃ (i : Nat) (l : List Nat), i ≤ N ∧ i ≤ 200 ∧ iv = .int .i64 (i : Int) ∧ Hid (Pl20 w g l lv wr ∧ l.length ≤ i)) (fun _ iv _ => N - (intOf iv).toNat)
  case atStart => exact ⟨0, [], by omega, by omega, rfl, HP.out, Nat.le_refl _⟩
  case round =>
    obtain ⟨i, l, hi, hi2, rfl, HI⟩ := hrel
    by_cases hlt : i < N
    · have hd : decide ((i : Int) < (N : Int)) = true := decide_eq_true (by omega)
      have hdN : decide (i < N) = true := decide_eq_true hlt
      by_cases h200 : i < 200
      · have hd2 : decide ((i : Int) < 200) = true := decide_eq_true (by omega)
        have hiN : (i : Int) < (N : Int) := by omega
        obtain ⟨bn, on, rfl, hc, hx64⟩ := HX.out.at rfl HI.out.1.win.below (i := i) (by rw [← HN.out]; exact hlt)
        obtain ⟨n, hn⟩ : ∃ n, n = xs.getD i 0 := ⟨_, rfl⟩
        rw [← hn] at hc hx64
        have HM1 : Hid _ := HI.out.1.mark n hx64
        have HNx : Hid (n = xs.getD i 0) := hn
        clear hn
        go_wp2_with fail
        refine Calls.mono HM1.out ?_
        rintro e w4 ⟨rfl, hW4, hO4⟩
        have hc4 : w4.cell? ⟨bn, on + i, none⟩ = some (.int .u64 (n : Int)) := by
          obtain ⟨b', o', e1, h1, -⟩ := HX.out.at rfl hW4.below (i := i) (by rw [← HN.out]; exact hlt)
          simp only [Option.some.injEq, Addr.mk.injEq, and_true] at e1
          obtain ⟨rfl, rfl⟩ := e1
          rw [h1, HNx.out]
        obtain ⟨l', hl'⟩ : ∃ l', l' = (mkL l n).1 := ⟨_, rfl⟩
        rw [← hl'] at hW4
        have HLl : Hid (l'.length ≤ i + 1) := by have h1 := mk_len l n; have h2 := HI.out.2; show _ ≤ _; rw [hl']; omega
        have HM2 : Hid _ := Pl20.mark2 hW4 hO4 HI.out.1.lim (by have := HI.out.2; omega) n hx64 hl'
        generalize (mkL l n).2 = R at HM2 ⊢
        clear hW4 hO4 hl' HM1 HI hc HP
        go_wp2_with fail
        refine Calls.mono HM2.out ?_
        rintro e w5 ⟨v5, rfl, hP5⟩
        have HP5 : Hid (Pl20 w g l' v5 w5) := hP5
        have HT1 : Hid _ := wtop_any g l' w5 hP5.win.win
        have HT2 : Hid _ := top20_any v5 l' hP5.lim w5 hP5.row.rd
        generalize tpN l' = t at HT1 HT2
        generalize decide (0 < l'.length) = qb at HT1 HT2
        clear hP5 HM2 hc4
        go_wp2_with fail
        refine Calls.mono HT1.out ?_
        rintro e w6 ⟨rfl, rfl⟩
        go_wp2_with fail
        refine Calls.mono HT2.out ?_
        rintro e w7 ⟨rfl, rfl⟩
        clear HT1 HT2
        go_wp2
        go_loopw [16] (fun jv wx => ∃ j : Nat, j ≤ A ∧ j ≤ 10 ∧ jv = .int .i64 (j : Int) ∧ Hid (Pl20 w g l' v5 wx)) (fun jv _ => A - (intOf jv).toNat)
        case atStart => exact ⟨0, by omega, by omega, rfl, HP5.out⟩
        case round =>
          obtain ⟨j, hj, hj2, rfl, HJ⟩ := hrel
          by_cases hja : j < A
          · have kd : decide ((j : Int) < (A : Int)) = true := decide_eq_true (by omega)
            have kdN : decide (j < A) = true := decide_eq_true hja
            by_cases h10 : j < 10
            · have kd2 : decide ((j : Int) < 10) = true := decide_eq_true (by omega)
              have hjA : (j : Int) < (A : Int) := by omega
              obtain ⟨ba, oa, rfl, hca, hq64⟩ := HY.out.at rfl HJ.out.win.below (i := j) (by rw [← HA.out]; exact hja)
              obtain ⟨bn', on', e1, hcn, -⟩ := HX.out.at rfl HJ.out.win.below (i := i) (by rw [← HN.out]; exact hlt)
              simp only [Option.some.injEq, Addr.mk.injEq, and_true] at e1
              obtain ⟨rfl, rfl⟩ := e1
              rw [← HNx.out] at hcn
              generalize ys.getD j 0 = q at hca hq64
              obtain ⟨s, hs⟩ : ∃ s : Nat, s = (n + q) % 18446744073709551616 := ⟨_, rfl⟩
              have es : IntKind.u64.wrap ((n : Int) + (q : Int)) = (s : Int) := by rw [IntKind.wrap_u64]; omega
              have hs64 : s < 18446744073709551616 := by omega
              have hPd : Pl20 w g l' v5 wr.drew := HJ.out.kept (Below.refl _ _).drew
              have HC1 : Hid _ := wcheck_any g l' q _ rfl hq64 _ hPd.win.win
              have HC2 : Hid _ := check20_any v5 l' hPd.lim q hq64 _ hPd.row.rd
              have HC3 : Hid _ := wcheck_any g l' s _ rfl hs64 _ hPd.win.win
              have HC4 : Hid _ := check20_any v5 l' hPd.lim s hs64 _ hPd.row.rd
              generalize cmE l' q = R1 at HC1 HC2
              generalize cmE l' s = R2 at HC3 HC4
              have HPd : Hid (Pl20 w g l' v5 wr.drew) := hPd
              have ej : IntKind.i64.wrap ((j : Int) + 1) = ((j + 1 : Nat) : Int) := by rw [IntWalk.i64_in _ (by omega)]; omega
              have hS : IsW wr.drew wr.drew := rfl
              clear hPd hs HJ HP5
              go_wp2_with fail
              refine wpS_begin (IsW wr.drew) (by kernel_rfl) ?_
              refine sU_ hS 0 rfl ⟨_, by intro W hW; go_simp <;> with_reducible rfl, ?_⟩
              try simp only [Act.put, pA_, pB_, pC_]
              refine sU_ hS 1 rfl ⟨_, by intro W hW; go_simp <;> with_reducible rfl, ?_⟩
              try simp only [Act.put, pA_, pB_, pC_]
              refine sU_ hS 2 rfl ⟨_, by intro W hW; go_simp <;> with_reducible rfl, ?_⟩
              try simp only [Act.put, pA_, pB_, pC_]
              refine sU_ hS 3 rfl ⟨_, by intro W hW; have hcW : W.cell? ⟨ba, oa + j, none⟩ = some (.int .u64 (q : Int)) := (by rw [show W = wr.drew from hW]; exact hca); go_simp <;> with_reducible rfl, ?_⟩
              try simp only [Act.put, pA_, pB_, pC_]
              refine sU_ hS 5 rfl ⟨_, by intro W hW; go_simp <;> with_reducible rfl, ?_⟩
              try simp only [Act.put, pA_, pB_, pC_]
              refine sU_ hS 6 rfl ⟨_, by intro W hW; go_simp <;> with_reducible rfl, ?_⟩
              try simp only [Act.put, pA_, pB_, pC_]
              refine sU_ hS 7 rfl ⟨_, by intro W hW; go_simp <;> with_reducible rfl, ?_⟩
              try simp only [Act.put, pA_, pB_, pC_]
              refine sU_ hS 8 rfl ⟨_, by intro W hW; go_simp <;> with_reducible rfl, ?_⟩
              try simp only [Act.put, pA_, pB_, pC_]
              refine sU_ hS 9 rfl ⟨_, by intro W hW; have hcW : W.cell? ⟨ba, oa + j, none⟩ = some (.int .u64 (q : Int)) := (by rw [show W = wr.drew from hW]; exact hca); go_simp <;> with_reducible rfl, ?_⟩
              try simp only [Act.put, pA_, pB_, pC_]
              refine sD_ 4 fun K hK => ?_
              go_simp
              refine Calls.mono HC1.out ?_
              rintro e w7 ⟨rfl, rfl⟩
              refine hK.out _ _ hS ?_
              clear hK K
              try simp only [Act.put, pA_, pB_, pC_]
              refine sD_ 10 fun K hK => ?_
              go_simp
              refine Calls.mono HC2.out ?_
              rintro e w7 ⟨rfl, rfl⟩
              refine hK.out _ _ hS ?_
              clear hK K
              try simp only [Act.put, pA_, pB_, pC_]
              refine sU_ hS 11 rfl ⟨_, by intro W hW; go_simp <;> with_reducible rfl, ?_⟩
              try simp only [Act.put, pA_, pB_, pC_]
              refine sU_ hS 12 rfl ⟨_, by intro W hW; go_simp <;> with_reducible rfl, ?_⟩
              try simp only [Act.put, pA_, pB_, pC_]
              refine sU_ hS 13 rfl ⟨_, by intro W hW; go_simp <;> with_reducible rfl, ?_⟩
              try simp only [Act.put, pA_, pB_, pC_]
              refine sU_ hS 14 rfl ⟨_, by intro W hW; go_simp <;> with_reducible rfl, ?_⟩
              try simp only [Act.put, pA_, pB_, pC_]
              refine sU_ hS 15 rfl ⟨_, by intro W hW; go_simp <;> with_reducible rfl, ?_⟩
              try simp only [Act.put, pA_, pB_, pC_]
              refine sU_ hS 16 rfl ⟨_, by intro W hW; have hcW : W.cell? ⟨bn, on + i, none⟩ = some (.int .u64 (n : Int)) := (by rw [show W = wr.drew from hW]; exact hcn); go_simp <;> with_reducible rfl, ?_⟩
              try simp only [Act.put, pA_, pB_, pC_]
              refine sU_ hS 17 rfl ⟨_, by intro W hW; go_simp <;> with_reducible rfl, ?_⟩
              try simp only [Act.put, pA_, pB_, pC_]
              refine sU_ hS 18 rfl ⟨_, by intro W hW; go_simp <;> with_reducible rfl, ?_⟩
              try simp only [Act.put, pA_, pB_, pC_]
              refine sU_ hS 19 rfl ⟨_, by intro W hW; go_simp <;> with_reducible rfl, ?_⟩
              try simp only [Act.put, pA_, pB_, pC_]
              refine sU_ hS 20 rfl ⟨_, by intro W hW; have hcW : W.cell? ⟨ba, oa + j, none⟩ = some (.int .u64 (q : Int)) := (by rw [show W = wr.drew from hW]; exact hca); go_simp <;> with_reducible rfl, ?_⟩
              try simp only [Act.put, pA_, pB_, pC_]
              refine sU_ hS 21 rfl ⟨_, by intro W hW; go_simp <;> with_reducible rfl, ?_⟩
              try simp only [Act.put, pA_, pB_, pC_]
              refine sU_ hS 23 rfl ⟨_, by intro W hW; go_simp <;> with_reducible rfl, ?_⟩
              try simp only [Act.put, pA_, pB_, pC_]
              refine sU_ hS 24 rfl ⟨_, by intro W hW; go_simp <;> with_reducible rfl, ?_⟩
              try simp only [Act.put, pA_, pB_, pC_]
              refine sU_ hS 25 rfl ⟨_, by intro W hW; go_simp <;> with_reducible rfl, ?_⟩
              try simp only [Act.put, pA_, pB_, pC_]
              refine sU_ hS 26 rfl ⟨_, by intro W hW; go_simp <;> with_reducible rfl, ?_⟩
              try simp only [Act.put, pA_, pB_, pC_]
              refine sU_ hS 27 rfl ⟨_, by intro W hW; have hcW : W.cell? ⟨bn, on + i, none⟩ = some (.int .u64 (n : Int)) := (by rw [show W = wr.drew from hW]; exact hcn); go_simp <;> with_reducible rfl, ?_⟩
              try simp only [Act.put, pA_, pB_, pC_]
              refine sU_ hS 28 rfl ⟨_, by intro W hW; go_simp <;> with_reducible rfl, ?_⟩
              try simp only [Act.put, pA_, pB_, pC_]
              refine sU_ hS 29 rfl ⟨_, by intro W hW; go_simp <;> with_reducible rfl, ?_⟩
              try simp only [Act.put, pA_, pB_, pC_]
              refine sU_ hS 30 rfl ⟨_, by intro W hW; go_simp <;> with_reducible rfl, ?_⟩
              try simp only [Act.put, pA_, pB_, pC_]
              refine sU_ hS 31 rfl ⟨_, by intro W hW; have hcW : W.cell? ⟨ba, oa + j, none⟩ = some (.int .u64 (q : Int)) := (by rw [show W = wr.drew from hW]; exact hca); go_simp <;> with_reducible rfl, ?_⟩
              try simp only [Act.put, pA_, pB_, pC_]
              refine sU_ hS 32 rfl ⟨_, by intro W hW; go_simp <;> with_reducible rfl, ?_⟩
              try simp only [Act.put, pA_, pB_, pC_]
              refine sD_ 22 fun K hK => ?_
              go_simp
              refine Calls.mono HC3.out ?_
              rintro e w7 ⟨rfl, rfl⟩
              refine hK.out _ _ hS ?_
              clear hK K
              try simp only [Act.put, pA_, pB_, pC_]
              refine sD_ 33 fun K hK => ?_
              go_simp
              refine Calls.mono HC4.out ?_
              rintro e w7 ⟨rfl, rfl⟩
              refine hK.out _ _ hS ?_
              clear hK K
              try simp only [Act.put, pA_, pB_, pC_]
              refine sU_ hS 34 rfl ⟨_, by intro W hW; go_simp <;> with_reducible rfl, ?_⟩
              try simp only [Act.put, pA_, pB_, pC_]
              refine sU_ hS 35 rfl ⟨_, by intro W hW; go_simp <;> with_reducible rfl, ?_⟩
              try simp only [Act.put, pA_, pB_, pC_]
              refine wpS_done (by kernel_rfl) ?_
              clear HC1 HC2 HC3 HC4 hca hcn
              go_wp2
              go_roundw
              case rel => exact ⟨j + 1, by omega, by omega, by go_num, HPd⟩
              case measure => simp [intOf] <;> omega
            · have kd2 : decide ((j : Int) < 10) = false := decide_eq_false (by omega)
              have ei : IntKind.i64.wrap ((i : Int) + 1) = ((i + 1 : Nat) : Int) := by rw [IntWalk.i64_in _ (by omega)]; omega
              go_wp2
              go_roundw
              case rel => exact ⟨i + 1, l', by omega, by omega, by go_num, HJ.out, HLl.out⟩
              case measure => simp [intOf] <;> omega
          · have kd : decide ((j : Int) < (A : Int)) = false := decide_eq_false (by omega)
            have kdN : decide (j < A) = false := decide_eq_false hja
            have ei : IntKind.i64.wrap ((i : Int) + 1) = ((i + 1 : Nat) : Int) := by rw [IntWalk.i64_in _ (by omega)]; omega
            go_wp2
            go_roundw
            case rel => exact ⟨i + 1, l', by omega, by omega, by go_num, HJ.out, HLl.out⟩
            case measure => simp [intOf] <;> omega
      · have hd2 : decide ((i : Int) < 200) = false := decide_eq_false (by omega)
        go_wp2
        go_ret
        exact ⟨rfl, HI.out.1.win.below⟩
    · have hd : decide ((i : Int) < (N : Int)) = false := decide_eq_false (by omega)
      have hdN : decide (i < N) = false := decide_eq_false hlt
      go_wp2
      go_ret
      exact ⟨rfl, HI.out.1.win.below⟩
end Go.Proofs.Ytmgkocoemgpgbaa
