/- What the document's own polynomial of a seed is: a contract of the reference of layer 12, seventh part. -/
import Derived.Test.YtmhbjaampobcbaaGreatDoorRef12a
import Derived.Test.YtmhbjaampobcbaaGreatDoorNum
import Derived.Test.YtmhbjaampobcbaaGreatDoorRfb
import Derived.BigQuiet
namespace Go.Proofs.YtmhbjaampobcbaaGreatDoor
open Go.ChangeShapes Go.WideShapes Go.ChangeAt Go.RowKit
set_option linter.unusedSimpArgs false
set_option linter.unusedVariables false

theorem below_drewN12u {B : Nat} {w wr : World} (h : Below B w wr) : ∀ n, Below B w (wr.drewN n)
 | 0 => h
 | n + 1 => (below_drewN12u h n).drew
theorem pair_facts (x y z : UInt8) : ∃ r m X q t Y : Nat, X = x.toNat + 256 * (y.toNat % 16) ∧ Y = y.toNat / 16 + 16 * z.toNat ∧ X < 4096 ∧ Y < 4096 ∧
  ((y.toNat : Nat) : Int).tmod 16 = (r : Int) ∧ IntKind.i64.wrap (r : Int) = (r : Int) ∧ IntKind.i64.wrap (256 * (r : Int)) = (m : Int) ∧ IntKind.i64.wrap (((x.toNat : Nat) : Int) + (m : Int)) = (X : Int) ∧
  ((y.toNat : Nat) : Int).tdiv 16 = (q : Int) ∧ IntKind.i64.wrap (q : Int) = (q : Int) ∧ ((y.toNat : Nat) : Int) / 16 = (q : Int) ∧ IntKind.i64.wrap (16 * ((z.toNat : Nat) : Int)) = (t : Int) ∧ IntKind.i64.wrap ((q : Int) + (t : Int)) = (Y : Int) ∧
  IntKind.i64.wrap ((x.toNat : Nat) : Int) = ((x.toNat : Nat) : Int) ∧ IntKind.i64.wrap ((y.toNat : Nat) : Int) = ((y.toNat : Nat) : Int) ∧ IntKind.i64.wrap ((z.toNat : Nat) : Int) = ((z.toNat : Nat) : Int) := by
 have h1 := x.toNat_lt
 have h2 := y.toNat_lt
 have h3 := z.toNat_lt
 generalize x.toNat = a at h1
 generalize y.toNat = b at h2
 generalize z.toNat = c at h3
 refine ⟨b % 16, 256 * (b % 16), a + 256 * (b % 16), b / 16, 16 * c, b / 16 + 16 * c, rfl, rfl, by omega, by omega, ?_, ?_, ?_, ?_, ?_, ?_, by omega, ?_, ?_, ?_, ?_, ?_⟩
 ·rw [Int.tmod_eq_emod_of_nonneg (by omega)]; omega
 ·exact IntWalk.i64_in _ (by omega)
 ·rw [IntWalk.i64_in _ (by omega)]; omega
 ·rw [IntWalk.i64_in _ (by omega)]; omega
 ·rw [Int.tdiv_eq_ediv_of_nonneg (by omega)]; omega
 ·exact IntWalk.i64_in _ (by omega)
 ·rw [IntWalk.i64_in _ (by omega)]; omega
 ·rw [IntWalk.i64_in _ (by omega)]; omega
 ·exact IntWalk.i64_in _ (by omega)
 ·exact IntWalk.i64_in _ (by omega)
 ·exact IntWalk.i64_in _ (by omega)
theorem cd_pair (f : Nat → Nat) (k s : Nat) (hs : s < 56) : cdN (smF f 168) (112 * k + 2 * s) = (byF (itF f k) (3 * s)).toNat + 256 * ((byF (itF f k) (3 * s + 1)).toNat % 16) ∧
  cdN (smF f 168) (112 * k + 2 * s + 1) = (byF (itF f k) (3 * s + 1)).toNat / 16 + 16 * (byF (itF f k) (3 * s + 2)).toNat := by
 have e : ∀ j, j < 3 → smF f 168 (3 * (56 * k + s) + j) = byF (itF f k) (3 * s + j) := fun j hj => by
  unfold smF
  rw [show (3 * (56 * k + s) + j) / 168 = k by omega, show (3 * (56 * k + s) + j) % 168 = 3 * s + j by omega]
 have e0 := e 0 (by omega)
 have e1 := e 1 (by omega)
 have e2 := e 2 (by omega)
 rw [Nat.add_zero, Nat.add_zero] at e0
 constructor
 ·unfold cdN
  rw [if_pos (by omega), show (112 * k + 2 * s) / 2 = 56 * k + s by omega, e0, e1]
 ·unfold cdN
  rw [if_neg (by omega), show (112 * k + 2 * s + 1) / 2 = 56 * k + s by omega, e1, e2]
theorem cell_past12 {w w' : World} {b off g : Nat} (hw : Wrote g w w') (hp : b ≠ g) : w'.cell? ⟨b, off, none⟩ = w.cell? ⟨b, off, none⟩ := by
 have := hw.other b hp
 simp only [World.cell?]
 rw [this]
theorem cell_apart12 {k k' : IntKind} (hk : k ≠ k') {w : World} {e : TypeId} {g cap b off : Nat} {l : List Int} {x : Int} (hr : RowAt k' e g cap l w) (hf : l.length = cap) (hc : w.cell? ⟨b, off, none⟩ = some (.int k x)) : b ≠ g := by
 intro hbg
 subst hbg
 by_cases ho : off < l.length
 ·rw [hr.cell ho, Option.some.injEq, Value.int.injEq] at hc
  exact hk hc.1.symm
 ·rcases hr.own.2 with ⟨h', h0⟩ | ⟨g', cap', cur, h', hb, hg, hn, hm, hs, ht⟩
  ·simp at h'
  ·simp only [Value.slice.injEq, Option.some.injEq, Addr.mk.injEq, and_true, true_and] at h'
   obtain ⟨rfl, rfl⟩ := h'
   have hsz : cur.size = cap := by simpa using hs
   simp only [World.cell?, hg] at hc
   rw [Array.getElem?_eq_none (by omega)] at hc
   cases hc
theorem RdI.past12 {k k' : IntKind} (hk : k ≠ k') {w w' : World} {v : Value} {L : List Int} {e : TypeId} {g cap : Nat} {l : List Int} (h : RdI k w v L) (hr : RowAt k' e g cap l w) (hf : l.length = cap) (hw : Wrote g w w') : RdI k w' v L := by
 obtain ⟨a, c, e1, h2, h3, h4, h5⟩ := h
 refine ⟨a, c, e1, h2, h3, h4, h5.imp id ?_⟩
 rintro ⟨b, off, e2, hc⟩
 refine ⟨b, off, e2, fun i hi => ?_⟩
 rw [cell_past12 hw (cell_apart12 hk hr hf (hc i hi))]
 exact hc i hi
theorem Rd.past12 {w w' : World} {v : Value} {L : List UInt8} {e : TypeId} {g cap : Nat} {l : List Int} (h : Rd w v L) (hr : RowAt .i64 e g cap l w) (hf : l.length = cap) (hw : Wrote g w w') : Rd w' v L := by
 obtain ⟨a, c, e1, h2, h3, h4, h5⟩ := h
 refine ⟨a, c, e1, h2, h3, h4, h5.imp id ?_⟩
 rintro ⟨b, off, e2, hc⟩
 refine ⟨b, off, e2, fun i hi => ?_⟩
 rw [cell_past12 hw (cell_apart12 (by decide) hr hf (hc i hi))]
 exact hc i hi
theorem Rd.cell12 {w : World} {b off n cap : Nat} {l : List UInt8} (h : Rd w (.slice (some ⟨b, off, none⟩) n cap) l) {i : Nat} (hi : i < l.length) : w.cell? ⟨b, off + i, none⟩ = some (.int .u8 ((l.getD i 0).toNat : Int)) := by
 obtain ⟨b', o', c', ev, -, hc, -⟩ := h.cellAt hi
 simp only [Value.slice.injEq, Option.some.injEq, Addr.mk.injEq, and_true] at ev
 obtain ⟨⟨rfl, rfl⟩, -, rfl⟩ := ev
 exact hc
theorem gI_unG (l : List Nat) (n x : Nat) (h : n = l.length) : (gI (unG l)).set n ((x : Nat) : Int) = gI (unG (l ++ [x])) := by
 subst h
 rw [gI_set]
 exact gI_congr fun k _ => unG_put l x k

set_option maxRecDepth 100000 in
set_option maxHeartbeats 8000000 in
theorem uniform12_any (v : Value) (l : List UInt8) (hl : l.length ≤ 1000000) (w : World) (hr : Rd w v l) :
  Calls Tryz.prog 100 #[v] w fun e w' => e = .returned (poV (unF (smF (abF 168 31 l) 168))) ∧ Below w.heap.size w w' := by
 have HR : Hid (Rd w v l) := hr
 obtain ⟨f, hf⟩ : ∃ f : Nat → Nat, f = abF 168 31 l := ⟨_, rfl⟩
 have HF : Hid _ := hf
 have HFl : Hid (∀ t k, itF f t k < 18446744073709551616) := by
  show ∀ t, _
  rw [hf]
  exact fun t k => itF_lt _ (abF_lt 168 31 l) t k
 obtain ⟨S, hS⟩ : ∃ S : Nat → UInt8, S = smF f 168 := ⟨_, rfl⟩
 have HS : Hid _ := hS
 clear hr
 go_enter Tryz.func100, Tryz.ntmps100
 go_wp2_with (refine wpList_alloc_row (k := .i64) rfl 57 rfl (gI fun _ => 0) (alloc_po _) (gI_ne _) (poMax _) ?_)
 intro w1 rz bn sn
 rw [gI_length] at rz
 have hbw := bn
 have n1 : w.heap.size < w1.heap.size := by have := sn.out; omega
 clear bn sn
 go_wp2_with (refine wpList_alloc_row (k := .i64) rfl 57 rfl (gI fun _ => 0) (alloc_po _) (gI_ne _) (poMax _) ?_)
 intro w2 rp bn sn
 rw [gI_length] at rp
 replace rz := rz.kept bn
 replace hbw := stepB hbw bn
 have n2 : w1.heap.size < w2.heap.size := by have := sn.out; omega
 clear bn sn
 go_wp2_with fail
 refine (absorbR_any 168 31 31 rfl _ l hl _ (Rd.kept HR.out hbw)).mono ?_
 rintro e w3 ⟨va, rfl, hA, bn⟩
 replace rz := rz.kept bn
 replace rp := rp.kept bn
 replace hbw := stepB hbw bn
 rw [← hf] at hA
 have hA0 : RdI .u64 w3 va (stL (itF f 0)) := hA
 have rp0 : RowAt .i64 57 w1.heap.size 256 (gI (unG (unA S 0))) w3 := by
  rw [unA_zero, unG_nil]
  exact rp
 have n3 := bn.size
 clear hA bn rp hf hS
 go_wp2
 go_loopw [4, 5, 6] (fun av nv kv wx => ∃ k c n : Nat, k ≤ 24 ∧ c ≤ 2688 ∧ n ≤ 256 ∧ kv = .int .i64 (k : Int) ∧ nv = .int .i64 (n : Int) ∧ Hid (n = (unA S c).length) ∧ Hid (n = 256 ∨ c = 112 * k) ∧ RdI .u64 wx av (stL (itF f k)) ∧ RowAt .i64 57 w.heap.size 256 (gI fun _ => 0) wx ∧ RowAt .i64 57 w1.heap.size 256 (gI (unG (unA S c))) wx ∧ Below w.heap.size w wx) (fun _ _ kv _ => 24 - (intOf kv).toNat)
 case atStart => exact ⟨0, 0, 0, by omega, by omega, by omega, rfl, rfl, (by show _ = _; rfl), (by show _ ∨ _; right; rfl), hA0, rz, rp0, hbw⟩
 case round =>
  obtain ⟨k, c, n, hk, hc, hn, rfl, rfl, HN, HCK, hA, rz', rp', hbx⟩ := hrel
  clear hA0 rz rp0 hbw
  by_cases hgo : k < 24 ∧ n < 256
  ·obtain ⟨hk24, hn256⟩ := hgo
   have hd1 : decide ((k : Int) < 24) = true := decide_eq_true (by omega)
   have hd2 : decide ((n : Int) < 256) = true := decide_eq_true (by omega)
   have hkI : (k : Int) < 24 := by omega
   have hnI : (n : Int) < 256 := by omega
   go_wp2_with fail
   refine (bytes_any _ (itF f k) (HFl.out k) _ hA).mono ?_
   rintro e wb ⟨vb, rfl, hNb⟩
   obtain ⟨gb, ob, cb, rfl, hcb, -, -⟩ := hNb.rd.cellAt (i := 0) (by rw [bsP_length]; decide)
   have hB := hNb.rd
   rw [bsP_length] at hcb hB ⊢
   have hmb : cb ≤ 9223372036854775807 := by
    obtain ⟨a', c', ev, -, h3, -, -⟩ := id hB
    simp only [Value.slice.injEq] at ev
    obtain ⟨-, -, rfl⟩ := ev
    unfold maxLen at h3
    omega
   replace hB := hB.take (n := 168) (by decide)
   replace hA := hA.kept hNb.2
   replace rz' := rz'.kept hNb.2
   replace rp' := rp'.kept hNb.2
   replace hbx := stepB hbx hNb.2
   have HBy : Hid (∀ m, m < 168 → ((bsP (itF f k) 200).take 168).getD m 0 = byF (itF f k) m) := by
    show ∀ m, _
    intro m hm
    have := bsP_get (itF f k) 200 m (by omega)
    simp only [List.getD_eq_getElem?_getD, List.getElem?_take, if_pos hm] at this ⊢
    exact this
   have HBl : Hid (((bsP (itF f k) 200).take 168).length = 168) := by
    show _ = _
    rw [List.length_take, bsP_length]
    rfl
   generalize (bsP (itF f k) 200).take 168 = Bl at hB HBy HBl
   clear hNb
   have hcbI : (168 : Int) ≤ (cb : Int) := by omega
   have HCK0 : Hid (n = 256 ∨ c = 112 * k + 2 * 0) := HCK
   clear HCK hn256 hnI hd2
   go_wp2
   rename World => wu
   go_loopw [5, 8] (fun nv iv wx => ∃ s c n : Nat, s ≤ 56 ∧ c ≤ 2688 ∧ n ≤ 256 ∧ iv = .int .i64 ((3 * s : Nat) : Int) ∧ nv = .int .i64 (n : Int) ∧ Hid (n = (unA S c).length) ∧ Hid (n = 256 ∨ c = 112 * k + 2 * s) ∧ RdI .u64 wx u4 (stL (itF f k)) ∧ Rd wx (.slice (some ⟨gb, ob, none⟩) 168 cb) Bl ∧ RowAt .i64 57 w.heap.size 256 (gI fun _ => 0) wx ∧ RowAt .i64 57 w1.heap.size 256 (gI (unG (unA S c))) wx ∧ Below w.heap.size w wx) (fun _ iv _ => 168 - (intOf iv).toNat)
   case atStart => exact ⟨0, c, n, by omega, hc, hn, rfl, rfl, HN, HCK0, hA, hB, rz', rp', hbx⟩
   case round =>
    obtain ⟨s, c, n, hs, hc, hn, rfl, rfl, HN, HC, hA2, hB2, rz2, rp2, hb2⟩ := hrel
    clear hA hB rz' rp' hbx
    obtain ⟨i3, hi3⟩ : ∃ i3 : Nat, i3 = 3 * s := ⟨_, rfl⟩
    rw [← hi3]
    by_cases hgo : i3 < 168 ∧ n < 256
    ·obtain ⟨hi168, hn256⟩ := hgo
     have hd3 : decide ((i3 : Int) < 168) = true := decide_eq_true (by omega)
     have hd4 : decide ((n : Int) < 256) = true := decide_eq_true (by omega)
     have hiI : (i3 : Int) < 168 := by omega
     have hnI : (n : Int) < 256 := by omega
     have hce : c = 112 * k + 2 * s := by
      rcases HC.out with h | h
      ·omega
      ·exact h
     have b0 := hB2.cell12 (i := i3) (by rw [HBl.out]; omega)
     have b1 := hB2.cell12 (i := i3 + 1) (by rw [HBl.out]; omega)
     have b2 := hB2.cell12 (i := i3 + 2) (by rw [HBl.out]; omega)
     rw [HBy.out _ (by omega)] at b0 b1 b2
     have hcd := cd_pair f k s (by omega)
     rw [← HS.out, ← hce, ← hi3] at hcd
     obtain ⟨r, m, X, q, t, Y, hX, hY, hXl, hYl, y1, y2, y3, y4, y5, y6, y7, y8, y9, v0, v1, v2⟩ := pair_facts (byF (itF f k) i3) (byF (itF f k) (i3 + 1)) (byF (itF f k) (i3 + 2))
     have HX : Hid (cdN S c = X) := by show _ = _; rw [hcd.1, hX]
     have HY : Hid (cdN S (c + 1) = Y) := by show _ = _; rw [hcd.2, hY]
     obtain ⟨j1, hj1⟩ : ∃ j : Nat, j = i3 + 1 := ⟨_, rfl⟩
     obtain ⟨j2, hj2⟩ : ∃ j : Nat, j = i3 + 2 := ⟨_, rfl⟩
     have z1 : IntKind.i64.wrap ((i3 : Int) + 1) = (j1 : Int) := by rw [IntWalk.i64_in _ (by omega)]; omega
     have z2 : IntKind.i64.wrap ((i3 : Int) + 2) = (j2 : Int) := by rw [IntWalk.i64_in _ (by omega)]; omega
     have l1 : j1 < 168 := by omega
     have l2 : j2 < 168 := by omega
     have l1I : (j1 : Int) < 168 := by omega
     have l2I : (j2 : Int) < 168 := by omega
     generalize (byF (itF f k) i3).toNat = B0 at b0 y4 v0
     generalize (byF (itF f k) (i3 + 1)).toNat = B1 at b1 y1 y5 y7 v1
     generalize (byF (itF f k) (i3 + 2)).toNat = B2 at b2 y8 v2
     rw [← hj1] at b1
     rw [← hj2] at b2
     have HI3 : Hid (i3 = 3 * s) := hi3
     have HCe : Hid (c = 112 * k + 2 * s) := hce
     clear hcd hX hY hj1 hj2 hce hi3
     have HB0 : Hid _ := b0
     have HB1 : Hid _ := b1
     have HB2 : Hid _ := b2
     go_wp2_with fail
     go_quiet (fail)
     have bq := below_drewN12u (Below.refl wr.heap.size wr) nq
     replace hA2 := hA2.kept bq
     replace hB2 := hB2.kept bq
     replace rz2 := rz2.kept bq
     replace rp2 := rp2.kept bq
     replace hb2 := stepB hb2 bq
     replace b1 := cellB11 b1 bq
     replace b2 := cellB11 b2 bq
     clear b0 bq HB0 HB1 HB2
     generalize wr.drewN nq = wq at hA2 hB2 rz2 rp2 hb2 b1 b2 ⊢
     go_wp2_with fail
     go_quiet (fail)
     rename Nat => nq2
     have bq := below_drewN12u (Below.refl wq.heap.size wq) nq2
     replace hA2 := hA2.kept bq
     replace hB2 := hB2.kept bq
     replace rz2 := rz2.kept bq
     replace rp2 := rp2.kept bq
     replace hb2 := stepB hb2 bq
     clear b1 b2 bq
     generalize wq.drewN nq2 = wp at hA2 hB2 rz2 rp2 hb2 ⊢
     by_cases hx : X < 3329
     ·have dx : decide ((X : Int) < 3329) = true := decide_eq_true (by omega)
      have dxI : (X : Int) < 3329 := by omega
      have e1 : unA S (c + 1) = unA S c ++ [X] := by
       rw [← HX.out]
       exact unA_take (by rw [HX.out]; exact hx) (by rw [← HN.out]; exact hn256)
      have HPut : Hid ((gI (unG (unA S c))).set n ((X : Nat) : Int) = gI (unG (unA S (c + 1)))) := by
       show _ = _
       rw [gI_unG _ _ _ HN.out, e1]
      have HN1 : Hid (n + 1 = (unA S (c + 1)).length) := by
       show _ = _
       rw [e1, List.length_append, List.length_singleton, ← HN.out]
      obtain ⟨p, hp⟩ : ∃ p : Nat, p = n + 1 := ⟨_, rfl⟩
      have xp : IntKind.i64.wrap ((n : Int) + 1) = (p : Int) := by rw [IntWalk.i64_in _ (by omega)]; omega
      rw [← hp] at HN1
      have HNL : Hid (n < 256) := hn256
      have HP : Hid (p = n + 1) := hp
      clear e1 hp
      go_wp2_with (refine wpList_store_int rfl _ _ rfl rfl (X : Int) rfl rp2 (by rw [gI_length]; exact HNL.out) ?_)
      intro ws rs hws
      rw [HPut.out] at rs
      have hA3 := hA2.past12 (by decide) rp2 (by rw [gI_length]) hws
      have hB3 := hB2.past12 rp2 (by rw [gI_length]) hws
      have rz3 := rz2.wrote hws (by omega)
      have hb3 := hws.below _ _ (by omega) hb2
      clear hA2 hB2 rz2 rp2 hb2 hws HPut
      have hc2 : c + 2 ≤ 2688 := by have := HCe.out; have := HI3.out; omega
      have HI2 : Hid (IntKind.i64.wrap ((i3 : Int) + 3) = ((3 * (s + 1) : Nat) : Int)) := by
       show _ = _
       have := HI3.out
       rw [IntWalk.i64_in _ (by omega)]
       omega
      by_cases hy : Y < 3329 ∧ p < 256
      ·obtain ⟨hy1, hy2⟩ := hy
       have dy : decide ((Y : Int) < 3329) = true := decide_eq_true (by omega)
       have dyI : (Y : Int) < 3329 := by omega
       have dp : decide ((p : Int) < 256) = true := decide_eq_true (by omega)
       have dpI : (p : Int) < 256 := by omega
       have e2 : unA S (c + 2) = unA S (c + 1) ++ [Y] := by
        rw [← HY.out]
        exact unA_take (c := c + 1) (by rw [HY.out]; exact hy1) (by rw [← HN1.out]; exact hy2)
       have HPut : Hid ((gI (unG (unA S (c + 1)))).set p ((Y : Nat) : Int) = gI (unG (unA S (c + 2)))) := by
        show _ = _
        rw [gI_unG _ _ _ HN1.out, e2]
       have HN2 : Hid (p + 1 = (unA S (c + 2)).length) := by
        show _ = _
        rw [e2, List.length_append, List.length_singleton, ← HN1.out]
       have HNL2 : Hid (p < 256) := hy2
       clear e2
       go_wp2_with (refine wpList_store_int rfl _ _ rfl rfl (Y : Int) rfl rs (by rw [gI_length]; exact HNL2.out) ?_)
       intro wt rt hwt
       rw [HPut.out] at rt
       have hA4 := hA3.past12 (by decide) rs (by rw [gI_length]) hwt
       have hB4 := hB3.past12 rs (by rw [gI_length]) hwt
       have rz4 := rz3.wrote hwt (by omega)
       have hb4 := hwt.below _ _ (by omega) hb3
       clear hA3 hB3 rz3 rs hb3 hwt HPut
       go_wp2
       go_roundw
       case rel => exact ⟨s + 1, c + 2, p + 1, by have := HI3.out; omega, hc2, by omega, by first | exact valI (by have := HI3.out; omega) | rw [HI2.out], by go_num, HN2, (by show _ ∨ _; right; have := HCe.out; omega), hA4, hB4, rz4, rt, hb4⟩
       case measure =>
        have := HI3.out
        simp [intOf]
        omega
      ·have hcy : (decide ((Y : Int) < 3329) = false ∧ (3329 : Int) ≤ (Y : Int)) ∨ (decide ((Y : Int) < 3329) = true ∧ (Y : Int) < 3329 ∧ decide ((p : Int) < 256) = false ∧ (256 : Int) ≤ (p : Int)) := by
        by_cases h1 : Y < 3329
        ·exact .inr ⟨decide_eq_true (by omega), by omega, decide_eq_false (by omega), by omega⟩
        ·exact .inl ⟨decide_eq_false (by omega), by omega⟩
       have e2 : unA S (c + 2) = unA S (c + 1) := unA_pass (c := c + 1) (by rw [HY.out, ← HN1.out]; exact hy)
       have HN2 : Hid (p = (unA S (c + 2)).length) := by
        show _ = _
        rw [e2, ← HN1.out]
       have HPle : Hid (p ≤ 256) := by
        show _ ≤ _
        rw [HN2.out]
        exact unA_le S _
       rw [← e2] at rs
       clear e2 hy
       rcases hcy with ⟨g1, g2⟩ | ⟨g1, g2, g3, g4⟩
       all_goals
        go_wp2
        go_roundw
        case rel => exact ⟨s + 1, c + 2, p, by have := HI3.out; omega, hc2, HPle.out, by first | exact valI (by have := HI3.out; omega) | rw [HI2.out], rfl, HN2, (by show _ ∨ _; right; have := HCe.out; omega), hA3, hB3, rz3, rs, hb3⟩
        case measure =>
         have := HI3.out
         simp [intOf]
         omega
     ·have dx : decide ((X : Int) < 3329) = false := decide_eq_false (by omega)
      have dxI : (3329 : Int) ≤ (X : Int) := by omega
      have e1 : unA S (c + 1) = unA S c := unA_pass (by rw [HX.out]; omega)
      have HN1 : Hid (n = (unA S (c + 1)).length) := by
       show _ = _
       rw [e1, ← HN.out]
      rw [← e1] at rp2
      clear e1
      have hc2 : c + 2 ≤ 2688 := by have := HCe.out; have := HI3.out; omega
      have HI2 : Hid (IntKind.i64.wrap ((i3 : Int) + 3) = ((3 * (s + 1) : Nat) : Int)) := by
       show _ = _
       have := HI3.out
       rw [IntWalk.i64_in _ (by omega)]
       omega
      by_cases hy : Y < 3329 ∧ n < 256
      ·obtain ⟨hy1, hy2⟩ := hy
       have dy : decide ((Y : Int) < 3329) = true := decide_eq_true (by omega)
       have dyI : (Y : Int) < 3329 := by omega
       have dp : decide ((n : Int) < 256) = true := decide_eq_true (by omega)
       have dpI : (n : Int) < 256 := by omega
       have e2 : unA S (c + 2) = unA S (c + 1) ++ [Y] := by
        rw [← HY.out]
        exact unA_take (c := c + 1) (by rw [HY.out]; exact hy1) (by rw [← HN1.out]; exact hy2)
       have HPut : Hid ((gI (unG (unA S (c + 1)))).set n ((Y : Nat) : Int) = gI (unG (unA S (c + 2)))) := by
        show _ = _
        rw [gI_unG _ _ _ HN1.out, e2]
       have HN2 : Hid (n + 1 = (unA S (c + 2)).length) := by
        show _ = _
        rw [e2, List.length_append, List.length_singleton, ← HN1.out]
       have HNL2 : Hid (n < 256) := hy2
       clear e2
       go_wp2_with (refine wpList_store_int rfl _ _ rfl rfl (Y : Int) rfl rp2 (by rw [gI_length]; exact HNL2.out) ?_)
       intro wt rt hwt
       rw [HPut.out] at rt
       have hA4 := hA2.past12 (by decide) rp2 (by rw [gI_length]) hwt
       have hB4 := hB2.past12 rp2 (by rw [gI_length]) hwt
       have rz4 := rz2.wrote hwt (by omega)
       have hb4 := hwt.below _ _ (by omega) hb2
       clear hA2 hB2 rz2 rp2 hb2 hwt HPut
       go_wp2
       go_roundw
       case rel => exact ⟨s + 1, c + 2, n + 1, by have := HI3.out; omega, hc2, by omega, by first | exact valI (by have := HI3.out; omega) | rw [HI2.out], by go_num, HN2, (by show _ ∨ _; right; have := HCe.out; omega), hA4, hB4, rz4, rt, hb4⟩
       case measure =>
        have := HI3.out
        simp [intOf]
        omega
      ·have hcy : decide ((Y : Int) < 3329) = false ∧ (3329 : Int) ≤ (Y : Int) := ⟨decide_eq_false (by omega), by omega⟩
       have e2 : unA S (c + 2) = unA S (c + 1) := unA_pass (c := c + 1) (by rw [HY.out, ← HN1.out]; exact hy)
       have HN2 : Hid (n = (unA S (c + 2)).length) := by
        show _ = _
        rw [e2, ← HN1.out]
       have HPle : Hid (n ≤ 256) := by
        show _ ≤ _
        rw [HN2.out]
        exact unA_le S _
       rw [← e2] at rp2
       clear e2 hy
       obtain ⟨g1, g2⟩ := hcy
       all_goals
        go_wp2
        go_roundw
        case rel => exact ⟨s + 1, c + 2, n, by have := HI3.out; omega, hc2, HPle.out, by first | exact valI (by have := HI3.out; omega) | rw [HI2.out], rfl, HN2, (by show _ ∨ _; right; have := HCe.out; omega), hA2, hB2, rz2, rp2, hb2⟩
        case measure =>
         have := HI3.out
         simp [intOf]
         omega
    ·have hcond : (decide ((i3 : Int) < 168) = false ∧ (168 : Int) ≤ (i3 : Int)) ∨ (decide ((i3 : Int) < 168) = true ∧ (i3 : Int) < 168 ∧ decide ((n : Int) < 256) = false ∧ (256 : Int) ≤ (n : Int)) := by
      by_cases h1 : i3 < 168
      ·exact .inr ⟨decide_eq_true (by omega), by omega, decide_eq_false (by omega), by omega⟩
      ·exact .inl ⟨decide_eq_false (by omega), by omega⟩
     have HCn : Hid (n = 256 ∨ c = 112 * (k + 1)) := by
      show _ ∨ _
      rcases HC.out with h | h
      ·exact .inl h
      ·by_cases h1 : i3 < 168
       ·left; omega
       ·right; omega
     clear hgo hi3
     rcases hcond with ⟨d1, d2⟩ | ⟨d1, d2, d3, d4⟩
     all_goals
      go_wp2_with fail
      refine (fast_any _ (itF f k) (HFl.out k) _ hA2).mono ?_
      rintro e wf ⟨vf, rfl, hNf⟩
      have hAf : RdI .u64 wf vf (stL (itF f (k + 1))) := hNf.rd
      have rzf := rz2.kept hNf.2
      have rpf := rp2.kept hNf.2
      have hbf := stepB hb2 hNf.2
      clear hNf hA2 hB2 rz2 rp2 hb2
      go_wp2
      go_roundw
      case rel => exact ⟨k + 1, c, n, by omega, hc, hn, by go_num, rfl, HN, HCn, hAf, rzf, rpf, hbf⟩
      case measure => simp [intOf] <;> omega
  ·have hcond : (decide ((k : Int) < 24) = false ∧ (24 : Int) ≤ (k : Int)) ∨ (decide ((k : Int) < 24) = true ∧ (k : Int) < 24 ∧ decide ((n : Int) < 256) = false ∧ (256 : Int) ≤ (n : Int)) := by
    by_cases h1 : k < 24
    ·exact .inr ⟨decide_eq_true (by omega), by omega, decide_eq_false (by omega), by omega⟩
    ·exact .inl ⟨decide_eq_false (by omega), by omega⟩
   have HE : Hid (gI (unG (unA S c)) = gI (fzF (unF S))) := by
    show _ = _
    refine un_done hc ?_
    rcases HCK.out with h | h
    ·right; rw [← HN.out]; exact h
    ·by_cases h1 : k < 24
     ·right; rw [← HN.out]; omega
     ·left; omega
   rw [HE.out] at rp'
   clear hgo
   rcases hcond with ⟨d1, d2⟩ | ⟨d1, d2, d3, d4⟩
   all_goals
    go_wp2_with (first | refine wpList_load_row rfl 57 _ rfl rfl rp' _ Tryz.underlying57 rfl (poInfo _) ?_ | (refine wpList_store_row rfl 57 _ _ rfl (gI (fzF (unF S))) rfl rfl rz' (by rw [gI_length, gI_length]) (poInfo _) ?_; intro w7 r7 hw7))
    refine bodyPost_row (k := .i64) rfl rfl rfl r7 Tryz.underlying57 rfl (poInfo _) ?_
    exact ⟨by rw [HS.out, HF.out], hw7.below _ _ (Nat.le_refl _) hbx⟩
end Go.Proofs.YtmhbjaampobcbaaGreatDoor
