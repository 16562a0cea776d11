/- What Get of package wire answers: contracts of package wire, fifth part. -/
import Derived.Test.YtonnngndknoljaaWr18d
namespace Go.Proofs.Ytonnngndknoljaa
open Go.ChangeShapes Go.WideShapes Go.ChangeAt Go.RowKit
set_option linter.unusedSimpArgs false
set_option linter.unusedVariables false

/-- A packet's two rows, made since w0. -/
abbrev pkO (w0 : World) (p : Pkt) (vm vb : Value) (w : World) : Prop := OwnG w0 [Rw.by 5 vb p.body, Rw.by 5 vm p.mac] w
theorem pkO.pkR {w0 w : World} {p : Pkt} {vm vb : Value} (h : pkO w0 p vm vb w) : PkR w p vm vb := ⟨h.tail.rd0, h.rd0⟩
theorem pkO.wrote {w0 w w' : World} {p : Pkt} {vm vb : Value} {g : Nat} {ty : TypeId} {cs : List Value} (h : pkO w0 p vm vb w) (hw : Wrote g w w') (hb : BlkAt g ty cs w) (hge : w0.heap.size ≤ g) (hne : ty ≠ 5) : pkO w0 p vm vb w' :=
  OwnG.wrote h hw hge fun q hq => own_ne18 (h.rows q hq) hb (by
    have : q.ty = 5 := by
      simp only [List.mem_cons, List.not_mem_nil, or_false] at hq
      rcases hq with rfl | rfl <;> rfl
    rw [this]
    exact hne)
theorem pkO.none {w0 w : World} (h : Below w0.heap.size w0 w) : pkO w0 noPk (.slice none 0 0) (.slice none 0 0) w := ((OwnG.since h).nilB _).nilB _

set_option maxRecDepth 100000 in
set_option maxHeartbeats 16000000 in
theorem wget_any (v : Value) (b : List UInt8) (hl : b.length ≤ 100000) (w : World) (hr : Rd w v b) :
    Calls Try.prog 14 #[v] w fun e w' => ∃ vm vb, e = .returned (.tuple #[.agg (pkC (gtP b).1 vm vb).toArray, .int .i64 (gtP b).2]) ∧ pkO w (gtP b).1 vm vb w' := by
  obtain ⟨ab, cb, rfl, -⟩ := id hr
  obtain ⟨L, hL⟩ : ∃ n : Nat, n = b.length := ⟨_, rfl⟩
  have HR : Hid (Rd w (.slice ab L cb) b) := (by rw [hL]; exact hr : Rd w (.slice ab L cb) b)
  rw [← hL]
  have HL : Hid (L = b.length) := hL
  have HLe : Hid (b.length ≤ 100000) := hl
  have HE : Hid (∀ E, gtP b = (noPk, E) → ∀ W, Below w.heap.size w W → ∃ vm vb, Ending.returned (.tuple #[.agg zpk.toArray, .int .i64 E]) = .returned (.tuple #[.agg (pkC (gtP b).1 vm vb).toArray, .int .i64 (gtP b).2]) ∧ pkO w (gtP b).1 vm vb W) := fun E h W hW => by
    rw [h]
    exact ⟨.slice none 0 0, .slice none 0 0, rfl, pkO.none hW⟩
  have HG0 : Hid ((1200 < L → gtP b = (noPk, 14)) ∧ (¬ 1200 < L → L = 0 → gtP b = (noPk, 13)) ∧ (¬ 1200 < L → ¬ L = 0 → gtP b = if mayB (ptP b) = true then (ptP b, 0) else (noPk, 40))) := by
    refine ⟨fun h => ?_, fun h h0 => ?_, fun h h0 => ?_⟩
    · unfold gtP; rw [if_pos (by omega)]
    · unfold gtP; rw [if_neg (by omega), if_pos (by omega)]
    · exact gtP_pt (by omega) (by omega)
  obtain ⟨G, hG⟩ : ∃ G, G = gtP b := ⟨_, rfl⟩
  rw [← hG] at HE HG0 ⊢
  clear hr hL hl hG
  go_enter Try.func14, Try.ntmps14
  go_wp2_with (refine wpList_alloc_blk rfl 26 rfl zpk (alloc_wk _) ?_)
  intro w1 r1 b1 s1
  obtain ⟨g, hg⟩ : ∃ n : Nat, n = w.heap.size := ⟨_, rfl⟩
  rw [← hg] at r1 ⊢
  have R1 : Hid (BlkAt g 26 zpk w1) := r1
  have HGe : Hid (w.heap.size ≤ g) := by show _ ≤ _; omega
  have HB1 : Hid (Below w.heap.size w w1) := b1
  clear r1 b1 s1 hg
  by_cases h1200 : 1200 < L
  · have d : decide ((1200 : Int) < (L : Int)) = true := decide_eq_true (by omega)
    have HV : Hid (G = (noPk, 14)) := HG0.out.1 h1200
    go_wp2_with (first | refine wpList_buildB rfl 26 _ rfl #[] (by go_simp) _ (build_wk _) ?_ | (refine wpList_store_part rfl 26 _ _ rfl rfl zpk rfl [] zpk [] zpk R1.out (by simp) (by simp) rfl rfl info_wk one_zpk ?_; intro wz wzr wzw))
    refine bodyPost_pk rfl rfl rfl rfl wzr Try.underlying26 rfl info_wk ?_
    exact HE.out _ HV.out _ (wzw.below _ _ HGe.out HB1.out)
  have d1 : decide ((1200 : Int) < (L : Int)) = false := decide_eq_false (by omega)
  by_cases h0 : L = 0
  · have d : ((L : Int) == 0) = true := by simp [h0]
    have HV : Hid (G = (noPk, 13)) := HG0.out.2.1 h1200 h0
    go_wp2_with (first | refine wpList_buildB rfl 26 _ rfl #[] (by go_simp) _ (build_wk _) ?_ | (refine wpList_store_part rfl 26 _ _ rfl rfl zpk rfl [] zpk [] zpk R1.out (by simp) (by simp) rfl rfl info_wk one_zpk ?_; intro wz wzr wzw))
    refine bodyPost_pk rfl rfl rfl rfl wzr Try.underlying26 rfl info_wk ?_
    exact HE.out _ HV.out _ (wzw.below _ _ HGe.out HB1.out)
  have d2 : ((L : Int) == 0) = false := by rw [beq_eq_false_iff_ne]; omega
  have HG : Hid (G = if mayB (ptP b) = true then (ptP b, 0) else (noPk, 40)) := HG0.out.2.2 h1200 h0
  obtain ⟨P, hP⟩ : ∃ P, P = ptP b := ⟨_, rfl⟩
  rw [← hP] at HG
  have HP : Hid (P = ptP b) := hP
  have HW : Hid (PkW P) := (by rw [hP]; exact PkW_ptP b : PkW P)
  clear HG0 h1200 h0 hP
  go_wp2_with fail
  refine (parted_any _ b HLe.out _ (HR.out.kept HB1.out)).mono ?_
  rintro e w2 ⟨vm, vb, rfl, hO⟩
  rw [← HP.out] at hO ⊢
  obtain ⟨am, cm, rfl, -⟩ := id hO.tail.rd0
  obtain ⟨ab2, cb2, rfl, -⟩ := id hO.rd0
  obtain ⟨lm, hlm⟩ : ∃ n : Nat, n = P.mac.length := ⟨_, rfl⟩
  obtain ⟨lb, hlb⟩ : ∃ n : Nat, n = P.body.length := ⟨_, rfl⟩
  rw [← hlm, ← hlb] at hO ⊢
  have HO2 : Hid (pkO w P (.slice am lm cm) (.slice ab2 lb cb2) w2) := OwnG.from hO HB1.out
  have R2 : Hid (BlkAt g 26 zpk w2) := R1.out.kept hO.below
  clear hO R1 HB1 hlm hlb HR
  go_wp2_with (refine wpList_alloc_blk rfl 26 rfl zpk (alloc_wk _) ?_)
  intro w3 r3 b3 s3
  obtain ⟨g2, hg2⟩ : ∃ n : Nat, n = w2.heap.size := ⟨_, rfl⟩
  rw [← hg2] at r3 ⊢
  have HNe : Hid (g < g2) := by show _ < _; rw [hg2]; exact R2.out.lt
  have HGe2 : Hid (w.heap.size ≤ g2) := by show _ ≤ _; have := HGe.out; have := HNe.out; omega
  have R3 : Hid (BlkAt g 26 zpk w3) := R2.out.kept b3
  have HO3 : Hid (pkO w P (.slice am lm cm) (.slice ab2 lb cb2) w3) := OwnG.kept HO2.out b3
  clear hg2 b3 s3 R2 HO2
  go_wp2_with (refine wpList_store_part rfl 26 _ _ rfl rfl (pkC P (.slice am lm cm) (.slice ab2 lb cb2)) rfl [] zpk [] (pkC P (.slice am lm cm) (.slice ab2 lb cb2)) r3 (by simp) (by simp) rfl rfl info_wk (one_pk _ _ _ _ _ _ _) ?_)
  intro w4 r4 hw4
  have R4 : Hid (BlkAt g 26 zpk w4) := R3.out.wrote hw4 (by have := HNe.out; omega)
  have HO4 : Hid (pkO w P (.slice am lm cm) (.slice ab2 lb cb2) w4) := HO3.out.wrote hw4 r3 HGe2.out (by decide)
  have RP4 : Hid (BlkAt g2 26 (pkC P (.slice am lm cm) (.slice ab2 lb cb2)) w4) := (by simpa using r4 : BlkAt g2 26 (pkC P (.slice am lm cm) (.slice ab2 lb cb2)) w4)
  clear r3 r4 hw4 R3 HO3
  go_wp2_with (refine wpList_load_part rfl 26 _ rfl rfl [] (pkC P (.slice am lm cm) (.slice ab2 lb cb2)) [] RP4.out (by simp) rfl Try.underlying26 rfl info_wk ?_)
  refine (maybe_any P HW.out _ _ _ rfl _ HO4.out.pkR).mono ?_
  rintro e w5 ⟨rfl, b5⟩
  have R5 : Hid (BlkAt g 26 zpk w5) := R4.out.kept b5
  have HO5 : Hid (pkO w P (.slice am lm cm) (.slice ab2 lb cb2) w5) := OwnG.kept HO4.out b5
  have RP5 : Hid (BlkAt g2 26 (pkC P (.slice am lm cm) (.slice ab2 lb cb2)) w5) := RP4.out.kept b5
  clear b5 R4 HO4 RP4
  generalize mayB P = mb at HG
  cases mb
  · have HV : Hid (G = (noPk, 40)) := (by rw [HG.out]; rfl : G = (noPk, 40))
    go_wp2_with (first | refine wpList_buildB rfl 26 _ rfl #[] (by go_simp) _ (build_wk _) ?_ | (refine wpList_store_part rfl 26 _ _ rfl rfl zpk rfl [] zpk [] zpk R5.out (by simp) (by simp) rfl rfl info_wk one_zpk ?_; intro wz wzr wzw))
    refine bodyPost_pk rfl rfl rfl rfl wzr Try.underlying26 rfl info_wk ?_
    exact HE.out _ HV.out _ (wzw.below _ _ HGe.out HO5.out.below)
  · have HV : Hid (G = (P, 0)) := (by rw [HG.out]; rfl : G = (P, 0))
    go_wp2_with (first | refine wpList_load_part rfl 26 _ rfl rfl [] (pkC P (.slice am lm cm) (.slice ab2 lb cb2)) [] RP5.out (by simp) rfl Try.underlying26 rfl info_wk ?_ | (refine wpList_store_part rfl 26 _ _ rfl rfl (pkC P (.slice am lm cm) (.slice ab2 lb cb2)) rfl [] zpk [] (pkC P (.slice am lm cm) (.slice ab2 lb cb2)) R5.out (by simp) (by simp) rfl rfl info_wk (one_pk _ _ _ _ _ _ _) ?_; intro wz wzr wzw))
    have wzr2 : BlkAt g 26 (pkC P (.slice am lm cm) (.slice ab2 lb cb2)) wz := by simpa using wzr
    refine bodyPost_pk rfl rfl rfl rfl wzr2 Try.underlying26 rfl info_wk ?_
    rw [HV.out]
    exact ⟨_, _, rfl, HO5.out.wrote wzw R5.out HGe.out (by decide)⟩
end Go.Proofs.Ytonnngndknoljaa
