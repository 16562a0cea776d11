/- A peer's oldest other entry: contracts of package frag, eighth part. -/
import Derived.Test.YtkljklfejaojaaaFg19g
namespace Go.Proofs.Ytkljklfejaojaaa
open Go.ChangeShapes Go.WideShapes Go.ChangeAt Go.RowKit
set_option linter.unusedSimpArgs false
set_option linter.unusedVariables false

/-- The oldest one of the first i. -/
def mnY (ys : List Ey) : Nat → Ey
  | 0 => ys.getD 0 noY
  | k + 1 => if (ys.getD k noY).e.born < (mnY ys k).e.born then ys.getD k noY else mnY ys k
theorem mnY_one (ys : List Ey) : mnY ys 1 = ys.getD 0 noY := by
  rw [mnY, mnY, if_neg (Nat.lt_irrefl _)]
theorem mnY_mem {ys : List Ey} (h0 : 0 < ys.length) : ∀ k, k ≤ ys.length → mnY ys k ∈ ys
  | 0, _ => ey_mem h0
  | k + 1, h => by
    rw [mnY]
    split
    · exact ey_mem (by omega)
    · exact mnY_mem h0 k (by omega)
theorem getD_leftY {ys : List Ey} (y : Ey) {k : Nat} (h : k < ys.length) : (ys ++ [y]).getD k noY = ys.getD k noY := by
  rw [List.getD_eq_getElem?_getD, List.getElem?_append_left h, List.getD_eq_getElem?_getD]
theorem mnY_append {ys : List Ey} (y : Ey) (h0 : 0 < ys.length) : ∀ k, k ≤ ys.length → mnY (ys ++ [y]) k = mnY ys k
  | 0, _ => by
    rw [mnY, mnY, getD_leftY y h0]
  | k + 1, h => by
    rw [mnY, mnY, mnY_append y h0 k (by omega), getD_leftY y (show k < ys.length by omega)]
/-- A peer's other entries. -/
def otY (p : List UInt8) (m : Int) (xs : List Ey) : List Ey := keY (fun x => !otE p m x.e) xs
theorem otY_take (p : List UInt8) (m : Int) (xs : List Ey) {i : Nat} (h : i < xs.length) : otY p m (xs.take (i + 1)) = otY p m (xs.take i) ++ if otE p m (xs.getD i noY).e = true then [xs.getD i noY] else [] := by
  unfold otY
  rw [keY_take _ xs h]
  congr 1
  cases otE p m (xs.getD i noY).e <;> rfl
theorem od_mn (p : List UInt8) (m : Int) (xs : List Ey) : ∀ i, i ≤ xs.length → (odS p m (enYs xs) i = none ∧ otY p m (xs.take i) = []) ∨ ∃ a, odS p m (enYs xs) i = some a ∧ a < i ∧ 0 < (otY p m (xs.take i)).length ∧ mnY (otY p m (xs.take i)) (otY p m (xs.take i)).length = xs.getD a noY
  | 0, _ => .inl ⟨rfl, by simp [otY, keY]⟩
  | i + 1, h => by
    have hi : i < xs.length := by omega
    have eg := enYs_get xs hi
    rw [otY_take p m xs hi]
    rcases od_mn p m xs i (by omega) with ⟨h1, h2⟩ | ⟨a, h1, h2, h3, h4⟩
    · rw [h2, List.nil_append]
      by_cases ho : otE p m (xs.getD i noY).e = true
      · right
        rw [if_pos ho]
        refine ⟨i, by rw [odS, h1]; simp only; rw [eg, if_pos ho], by omega, by simp, ?_⟩
        rw [List.length_singleton, mnY_one]
        rfl
      · left
        rw [if_neg ho]
        exact ⟨by rw [odS, h1]; simp only; rw [eg, if_neg ho], rfl⟩
    · right
      have ea := enYs_get xs (show a < xs.length by omega)
      by_cases ho : otE p m (xs.getD i noY).e = true
      · rw [if_pos ho, List.length_append, List.length_singleton, mnY, mnY_append _ h3 _ (Nat.le_refl _), h4]
        have e1 : (otY p m (xs.take i) ++ [xs.getD i noY]).getD (otY p m (xs.take i)).length noY = xs.getD i noY := by simp
        rw [e1]
        by_cases hb : (xs.getD i noY).e.born < (xs.getD a noY).e.born
        · exact ⟨i, by rw [odS, h1]; simp only; rw [eg, ea, if_pos ⟨ho, hb⟩], by omega, by omega, if_pos hb⟩
        · exact ⟨a, by rw [odS, h1]; simp only; rw [eg, ea, if_neg (fun h => hb h.2)], by omega, by omega, if_neg hb⟩
      · rw [if_neg ho, List.append_nil]
        exact ⟨a, by rw [odS, h1]; simp only; rw [eg, if_neg (fun h => ho h.1)], by omega, h3, h4⟩
/-- What the search for the oldest one answers. -/
def olV (p : List UInt8) (m : Int) (xs : List Ey) : Value := match odN p m (enYs xs) with
  | none => .pointer none
  | some i => pV (xs.getD i noY).g
theorem olV_none {p : List UInt8} {m : Int} {xs : List Ey} (h : otY p m xs = []) : olV p m xs = .pointer none := by
  have := od_mn p m xs xs.length (Nat.le_refl _)
  rw [List.take_length] at this
  unfold olV odN
  rw [enYs_length]
  rcases this with ⟨h1, -⟩ | ⟨a, -, -, h3, -⟩
  · rw [h1]
  · rw [h] at h3
    simp at h3
theorem olV_some {p : List UInt8} {m : Int} {xs : List Ey} (h : 0 < (otY p m xs).length) : olV p m xs = pV (mnY (otY p m xs) (otY p m xs).length).g := by
  have := od_mn p m xs xs.length (Nat.le_refl _)
  rw [List.take_length] at this
  unfold olV odN
  rw [enYs_length]
  rcases this with ⟨-, h2⟩ | ⟨a, h1, -, -, h4⟩
  · rw [h2] at h
    simp at h
  · rw [h1, h4]

set_option maxRecDepth 100000 in
set_option maxHeartbeats 4000000 in
theorem minF_any (ys : List Ey) (v : Value) (w : World) (hR : RdC w v (pvs ys)) (hE : EnF ys w) (h0 : 0 < ys.length) :
    Calls Try.prog 54 #[v, .func (.func 55) #[] #[]] w fun e w' => e = .returned (pV (mnY ys ys.length).g) ∧ Below w.heap.size w w' := by
  obtain ⟨a, c, rfl, h1, h2, -⟩ := hR.formF
  rw [pvs_length] at h1 hR ⊢
  unfold maxLen at h2
  obtain ⟨b0, off0, rfl, d0⟩ := hR.atF h0
  rw [Nat.add_zero] at d0
  have HM0 : Hid ((ys.getD 0 noY).g = (mnY ys 1).g) := by show _ = _; rw [mnY_one]
  generalize (ys.getD 0 noY).g = g0 at d0 HM0
  obtain ⟨n, hn⟩ : ∃ n : Nat, n = ys.length := ⟨_, rfl⟩
  rw [← hn] at hR h1 h0 ⊢
  have HN : Hid (n = ys.length) := hn
  have HR : Hid (RdC w (.slice (some ⟨b0, off0, none⟩) n c) (pvs ys)) := hR
  have HE : Hid (EnF ys w) := hE
  obtain ⟨r, hr⟩ : ∃ r, r = (mnY ys n).g := ⟨_, rfl⟩
  rw [← hr]
  have HRr : Hid (r = (mnY ys n).g) := hr
  have hd1 : decide ((n : Int) < 1) = false := decide_eq_false (by omega)
  have hI1 : (1 : Int) ≤ (n : Int) := by omega
  have h0I : (0 : Int) < (n : Int) := by omega
  have HL : Hid (1 ≤ n) := h0
  clear hR hn hE hr
  go_enter Try.func54, Try.ntmps54
  go_wp2
  go_loopw [5, 6] (fun mv iv wx => ∃ i g : Nat, 1 ≤ i ∧ i ≤ n ∧ iv = .int .i64 (i : Int) ∧ mv = pV g ∧ Hid (g = (mnY ys i).g) ∧ Below w.heap.size w wx) (fun _ iv _ => n - (intOf iv).toNat)
  case atStart => exact ⟨1, g0, by omega, HL.out, rfl, rfl, HM0, Below.refl _ _⟩
  case round =>
    obtain ⟨i, g, hi0, hi, rfl, rfl, HG, hbx⟩ := hrel
    clear d0 HM0
    by_cases hlt : i < n
    · have hd : decide ((i : Int) < (n : Int)) = true := decide_eq_true (by omega)
      have hiI : (i : Int) < (n : Int) := by omega
      have hin : i < ys.length := by rw [← HN.out]; exact hlt
      obtain ⟨b, off, hbo, hc⟩ := HR.out.atF hin
      simp only [Option.some.injEq, Addr.mk.injEq, and_true] at hbo
      obtain ⟨rfl, rfl⟩ := hbo
      replace hc := cellF hc hbx
      have HCall : Hid (∀ W, Below w.heap.size w W → Calls Try.prog 55 #[pV (ys.getD i noY).g, pV g] W fun e w' => e = .returned (.int .i64 (cpI (ys.getD i noY).e.born (mnY ys i).e.born)) ∧ Below W.heap.size W w') := by
        show ∀ W, _
        intro W hW
        rw [HG.out]
        exact cOlder_any _ _ W (BlkAt.kept (HE.out.at hin) hW) (BlkAt.kept (HE.out _ (mnY_mem (by omega) i (by omega))) hW)
      have HNx : Hid (mnY ys (i + 1) = if (ys.getD i noY).e.born < (mnY ys i).e.born then ys.getD i noY else mnY ys i) := rfl
      obtain ⟨y, hy⟩ : ∃ y, y = ys.getD i noY := ⟨_, rfl⟩
      obtain ⟨z, hz⟩ : ∃ z, z = mnY ys i := ⟨_, rfl⟩
      rw [← hy] at hc HCall HNx
      rw [← hz] at HCall HNx HG
      clear hy hz
      obtain ⟨h, hh⟩ : ∃ h, h = y.g := ⟨_, rfl⟩
      rw [← hh] at hc HCall
      have HH : Hid (h = y.g) := hh
      clear hh
      by_cases hcmp : y.e.born < z.e.born
      · have e1 : cpI y.e.born z.e.born = -1 := if_pos hcmp
        rw [e1] at HCall
        have HG2 : Hid (h = (mnY ys (i + 1)).g) := by show _ = _; rw [HNx.out, if_pos hcmp, HH.out]
        clear hcmp e1 HNx HH hin
        go_wp2_with fail
        refine (HCall.out _ hbx).mono ?_
        rintro e w3 ⟨rfl, b3⟩
        replace hc := cellF hc b3
        replace hbx := stepB hbx b3
        clear HCall b3
        go_wp2
        go_roundw
        case rel => exact ⟨i + 1, h, by omega, by omega, by go_num, rfl, HG2, hbx⟩
        case measure => simp [intOf] <;> omega
      · obtain ⟨q, hq, hq1⟩ : ∃ q : Int, cpI y.e.born z.e.born = q ∧ 0 ≤ q := by
          refine ⟨_, rfl, ?_⟩
          unfold cpI
          rw [if_neg hcmp]
          split <;> omega
        rw [hq] at HCall
        have hqd : decide (q < 0) = false := decide_eq_false (by omega)
        have HG2 : Hid (g = (mnY ys (i + 1)).g) := by show _ = _; rw [HNx.out, if_neg hcmp, HG.out]
        clear hcmp hq HNx HH hin
        go_wp2_with fail
        refine (HCall.out _ hbx).mono ?_
        rintro e w3 ⟨rfl, b3⟩
        replace hc := cellF hc b3
        replace hbx := stepB hbx b3
        clear HCall b3
        go_wp2
        go_roundw
        case rel => exact ⟨i + 1, g, by omega, by omega, by go_num, rfl, HG2, hbx⟩
        case measure => simp [intOf] <;> omega
    · have hin : i = n := by omega
      have hd : decide ((i : Int) < (n : Int)) = false := decide_eq_false (by omega)
      have hiI : (n : Int) ≤ (i : Int) := by omega
      have HO : Hid (r = g) := by show _ = _; rw [HRr.out, HG.out, hin]
      clear hin
      go_wp2
      go_ret
      exact ⟨by rw [HO.out]; rfl, hbx⟩
set_option maxRecDepth 100000 in
set_option maxHeartbeats 4000000 in
theorem oldest_any (p : List UInt8) (m : Int) (xs : List Ey) (v : Value) (w : World) (hR : RdC w v (pvs xs)) (hE : EnF xs w) (hl : xs.length ≤ 1000) :
    Calls Try.prog 49 #[v, .string ⟨p.toArray⟩, .int .i64 m] w fun e w' => e = .returned (olV p m xs) ∧ Below w.heap.size w w' := by
  have HCall : Hid (∀ W g1 g2, Below w.heap.size w W → W.cell? ⟨g1, 0, none⟩ = some (.string ⟨p.toArray⟩) → W.cell? ⟨g2, 0, none⟩ = some (.int .i64 m) → Calls Try.prog 26 #[v, .func (.func 53) #[] #[.pointer (some ⟨g1, 0, none⟩), .pointer (some ⟨g2, 0, none⟩)]] W fun e w' => ∃ v', e = .returned v' ∧ w'.ownsRow W.heap.size 66 1 v' (otY p m xs).length (pvs (otY p m xs)) ∧ Below W.heap.size W w') := by
    show ∀ W, _
    intro W g1 g2 hW h1 h2
    refine without_any 53 #[.pointer (some ⟨g1, 0, none⟩), .pointer (some ⟨g2, 0, none⟩)] (fun x => !otE p m x.e) xs _ W (hR.kept hW) (by omega) (fun args w => enters_byF Try.func53 (by kernel_rfl) rfl args w) fun x hx V hV => ?_
    exact cOther_any p m g1 g2 x V (BlkAt.kept (hE x hx) (hW.trans (hV.mono hW.size))) (cellF h1 hV) (cellF h2 hV)
  have HMin : Hid (∀ W v', Below w.heap.size w W → RdC W v' (pvs (otY p m xs)) → 0 < (otY p m xs).length → Calls Try.prog 54 #[v', .func (.func 55) #[] #[]] W fun e w' => e = .returned (olV p m xs) ∧ Below W.heap.size W w') := by
    show ∀ W v', _
    intro W v' hW hv h0
    rw [olV_some h0]
    exact minF_any _ v' W hv (EnF.kept (fun x hx => hE x (keY_mem _ _ x hx)) hW) h0
  have HNo : Hid (otY p m xs = [] → olV p m xs = .pointer none) := olV_none
  obtain ⟨r, hr⟩ : ∃ r, r = olV p m xs := ⟨_, rfl⟩
  rw [← hr] at HMin HNo ⊢
  generalize otY p m xs = ys at HCall HMin HNo
  obtain ⟨a, c, rfl, -, -, -⟩ := hR.formF
  generalize (pvs xs).length = n at HCall
  clear hR hE hr hl
  go_enter Try.func49, Try.ntmps49
  go_wp2_with (refine wpList_box_v19 rfl 9 _ rfl (.string ⟨p.toArray⟩) rfl (boxS19 _ _) ?_)
  intro w1 r1 b1 s1
  obtain ⟨g1, hg1⟩ : ∃ g, g = w.heap.size := ⟨_, rfl⟩
  rw [← hg1] at r1 ⊢
  clear s1 hg1
  go_wp2_with (refine wpList_box_v19 rfl 3 _ rfl (.int .i64 m) rfl (boxI19 _ _) ?_)
  intro w2 r2 b2 s2
  obtain ⟨g2, hg2⟩ : ∃ g, g = w1.heap.size := ⟨_, rfl⟩
  rw [← hg2] at r2 ⊢
  clear s2 hg2
  replace r1 := r1.kept b2
  have hb2 : Below w.heap.size w w2 := stepB b1 b2
  have k1 : w2.cell? ⟨g1, 0, none⟩ = some (.string ⟨p.toArray⟩) := r1.cell 0
  have k2 : w2.cell? ⟨g2, 0, none⟩ = some (.int .i64 m) := r2.cell 0
  clear b1 b2 r1 r2
  go_wp2_with fail
  refine (HCall.out _ g1 g2 hb2 k1 k2).mono ?_
  rintro e w5 ⟨v', rfl, ho, b5⟩
  have HB5 : Hid (Below w.heap.size w w5) := stepB hb2 b5
  have hv := RdC.of_own ho
  obtain ⟨a', c', rfl, -, -, -⟩ := hv.formF
  rw [pvs_length] at hv ⊢
  have HV : Hid (RdC w5 (.slice a' ys.length c') (pvs ys)) := hv
  clear ho b5 hb2 k1 k2 HCall hv
  by_cases h0 : 0 < ys.length
  · have HM : Hid _ := HMin.out w5 _ HB5.out HV.out h0
    have hne : (((ys.length : Nat) : Int) == 0) = false := beq_eq_false_iff_ne.2 (by omega)
    have hne2 : ¬ ((ys.length : Nat) : Int) = 0 := by omega
    generalize ys.length = k at HM hne hne2 h0 ⊢
    clear HMin HNo HV
    go_wp2_with fail
    refine Calls.mono HM.out ?_
    rintro e w6 ⟨rfl, b6⟩
    go_wp2
    go_ret
    exact ⟨rfl, stepB HB5.out b6⟩
  · have HR : Hid (r = .pointer none) := HNo.out (List.eq_nil_of_length_eq_zero (by omega))
    have e0 : ys.length = 0 := by omega
    rw [e0]
    clear e0 h0 HMin HNo HV
    go_wp2
    go_ret
    exact ⟨by rw [HR.out]; rfl, HB5.out⟩
end Go.Proofs.Ytkljklfejaojaaa
