/- Add: contracts of package frag, thirteenth part (fg19m.py writes it). -/
import Derived.Test.YtkljklfejaojaaaFg19l
namespace Go.Proofs.Ytkljklfejaojaaa
open Go.ChangeShapes Go.WideShapes Go.ChangeAt Go.RowKit
set_option linter.unusedSimpArgs false
set_option linter.unusedVariables false

/-- What is looked at while an entry is appended. -/
structure AddS (gb g16 : Nat) (ve : Value) (gy : Nat) (W : World) : Prop where
  c3 : W.cell? ⟨gb, 3, none⟩ = some ve
  c16 : W.cell? ⟨g16, 0, none⟩ = some (pV gy)
theorem AddS.kept {gb g16 : Nat} {ve : Value} {gy : Nat} {w w' : World} (h : AddS gb g16 ve gy w) (hb : Below w.heap.size w w') : AddS gb g16 ve gy w' := ⟨cellF h.c3 hb, cellF h.c16 hb⟩
theorem AddS.chg {gb g16 : Nat} {ve : Value} {gy : Nat} {S : Nat → Prop} {w w' : World} (h : AddS gb g16 ve gy w) (c : Chg S w w') (h1 : ¬ S gb) (h2 : ¬ S g16) : AddS gb g16 ve gy w' :=
  ⟨by rw [World.cell?_of_block (w := w) (c.block gb (World.block_lt_of_cell? _ _ h.c3) h1)]; exact h.c3, by rw [World.cell?_of_block (w := w) (c.block g16 (World.block_lt_of_cell? _ _ h.c16) h2)]; exact h.c16⟩
theorem EnS.ex {l : List Ent} (h : EnS l) (age now : Nat) : EnS (exL age now l) := fun e he => h e (List.mem_filter.1 he).1
theorem mayG_ofF {msg part parts : Int} {n : Nat} (h : mayG msg part parts n = true) : 0 ≤ msg ∧ msg ≤ 7 ∧ 1 ≤ parts ∧ parts ≤ 64 ∧ 0 ≤ part ∧ part < parts ∧ 1 ≤ n ∧ n ≤ 1024 := by
  have := of_decide_eq_true h
  omega
theorem exL_len (age now : Nat) (l : List Ent) : (exL age now l).length ≤ l.length := List.length_filter_le _ _
set_option maxRecDepth 100000 in
set_option maxHeartbeats 16000000 in
theorem add_any (bf : Bf) (hs : EnS bf.l) (hl : bf.l.length ≤ 900) (hlim : (0 ≤ bf.pm ∧ bf.pm ≤ 9223372036854775807) ∧ (0 ≤ bf.am ∧ bf.am ≤ 9223372036854775807)) (p : List UInt8) (hp : p.length ≤ 1000) (msg part parts : Int) (body : List UInt8) (vb : Value) (now : Nat) (hnow : now < 18446744073709551616) (gb : Nat) (Kb : Nat → Prop)
    (w : World) (hK : ∀ q, w.heap.size ≤ q → Kb q) (hB : BuP Kb w gb bf) (hb : Rd w vb body) (ho : OutK Kb vb body) :
    Calls Try.prog 17 #[pV gb, .string ⟨p.toArray⟩, .int .i64 msg, .int .i64 part, .int .i64 parts, vb, .int .u64 (now : Int)] w fun e w' => ∃ v, e = .returned (.tuple #[v, .int .i64 (adF bf p msg part parts body now).2.2]) ∧ Rd w' v (adF bf p msg part parts body now).2.1 ∧ BuP Kb w' gb (adF bf p msg part parts body now).1 ∧ Cp Kb w w' := by
  obtain ⟨R, hR⟩ : ∃ R, R = adF bf p msg part parts body now := ⟨_, rfl⟩
  rw [← hR]
  obtain ⟨av, cv, rfl, -, -, -, -⟩ := id hb
  have HOut : Hid (OutK Kb (.slice av body.length cv) body) := ho
  have HRb : Hid (Rd w (.slice av body.length cv) body) := hb
  obtain ⟨M, hM⟩ : ∃ M, M = body.length := ⟨_, rfl⟩
  have HM : Hid (M = body.length) := hM
  rw [← hM] at HOut HRb ⊢
  have HKb : Hid (∀ q, w.heap.size ≤ q → Kb q) := hK
  have HP : Hid (p.length ≤ 1000) := hp
  by_cases hmay : mayG msg part parts body.length = true
  rotate_left
  · have hm0 : mayG msg part parts M = false := by rw [hM]; exact Bool.eq_false_iff.2 hmay
    have HF : Hid (R = (bf, [], 1)) := by show _ = _; rw [hR, adF, if_neg hmay]
    have HMay : Hid (Calls Try.prog 29 #[.int .i64 msg, .int .i64 part, .int .i64 parts, .int .i64 (M : Int)] w fun e w' => e = .returned (.bool false) ∧ w' = w) := by
      have := mayBe_any msg part parts M w
      rw [hm0] at this
      exact this
    have HBf : Hid (BuP Kb w gb bf) := hB
    clear hmay hm0 hR hM hs hl hlim hp hnow hK hB hb ho
    go_enter Try.func17, Try.ntmps17
    go_wp2_with fail
    refine Calls.mono HMay.out ?_
    rintro e w1 ⟨rfl, rfl⟩
    go_wp2
    go_ret2
    rw [HF.out]
    exact ⟨_, rfl, Rd.nil _, HBf.out, Cp.refl _ _⟩
  have hmf := mayG_ofF hmay
  obtain ⟨i, rfl⟩ : ∃ i : Nat, part = (i : Int) := ⟨part.toNat, by omega⟩
  obtain ⟨n, rfl⟩ : ∃ n : Nat, parts = (n : Int) := ⟨parts.toNat, by omega⟩
  have HIn : Hid (i < n ∧ n ≤ 64 ∧ body.length ≤ 1024) := ⟨by omega, by omega, by omega⟩
  have HIs : Hid ((i : Int).toNat = i ∧ (n : Int).toNat = n) := ⟨Int.toNat_natCast i, Int.toNat_natCast n⟩
  obtain ⟨b1, hb1⟩ : ∃ b1 : Bf, b1 = ⟨bf.pm, bf.am, bf.age, exL bf.age now bf.l⟩ := ⟨_, rfl⟩
  have HR : Hid (R = (if fdN p msg b1.l < b1.l.length then
      if (b1.l.getD (fdN p msg b1.l) noE).parts.length ≠ n ∨ ((b1.l.getD (fdN p msg b1.l) noE).parts.getD i [] ≠ [] ∧ (b1.l.getD (fdN p msg b1.l) noE).parts.getD i [] ≠ body) then (b1, [], 41)
      else if (b1.l.getD (fdN p msg b1.l) noE).parts.getD i [] ≠ [] then (b1, [], 0)
      else adG b1 p msg i n body now
    else adG b1 p msg i n body now)) := by
    show _ = _
    rw [hR, adF, if_pos hmay, hb1]
    simp only [HIs.out.1, HIs.out.2]
  have HMay : Hid (Calls Try.prog 29 #[.int .i64 msg, .int .i64 (i : Int), .int .i64 (n : Int), .int .i64 (M : Int)] w fun e w' => e = .returned (.bool true) ∧ w' = w) := by
    have := mayBe_any msg i n M w
    rw [hM, hmay] at this
    rw [hM]
    exact this
  have HExp : Hid (Calls Try.prog 13 #[pV gb, .int .u64 (now : Int)] w fun e w' => e = .returned (.tuple #[]) ∧ (∃ ve xs, BuX Kb w' gb ve b1 xs ∧ ∀ g, ve.ownBlock = some g → w.heap.size ≤ g) ∧ Cp (fun k => k = gb) w w') := by
    have := expire_any bf now hnow gb Kb w hK hB hs (by omega)
    rw [← hb1] at this
    exact this
  have HS1 : Hid (EnS b1.l ∧ b1.l.length ≤ 1000) := by
    show _ ∧ _
    rw [hb1]
    exact ⟨hs.ex _ _, by have := exL_len bf.age now bf.l; simp only; omega⟩
  have HLim : Hid ((0 ≤ b1.pm ∧ b1.pm ≤ 9223372036854775807) ∧ (0 ≤ b1.am ∧ b1.am ≤ 9223372036854775807)) := by show _ ∧ _; rw [hb1]; exact hlim
  have HKg : Hid (Kb gb) := by
    obtain ⟨_, _, h⟩ := hB
    exact h.kb
  have HMsg : Hid (0 ≤ msg ∧ msg ≤ 7) := ⟨hmf.1, hmf.2.1⟩
  clear hmay hR hM hs hl hlim hp hnow hK hB hb ho hb1 hmf HIs
  go_enter Try.func17, Try.ntmps17
  go_wp2_with fail
  refine Calls.mono HMay.out ?_
  rintro e w0 ⟨rfl, rfl⟩
  go_wp2_with fail
  refine Calls.mono HExp.out ?_
  rintro e w1 ⟨rfl, ⟨ve, xs, hX1, hve⟩, hc1⟩
  have HRb1 : Hid (Rd w1 (.slice av M cv) body) := HRb.out.chgF hc1.chg (HOut.out.mono fun k hk => by rw [hk]; exact HKg.out)
  have HC1 : Hid (Cp Kb w0 w1) := hc1.mono fun k _ hk => by rw [hk]; exact HKg.out
  obtain ⟨a, c, rfl, -, -, -⟩ := (RdC.of_own hX1.row).formF
  rw [pvs_length] at hX1
  obtain ⟨N, hN⟩ : ∃ N, N = xs.length := ⟨_, rfl⟩
  have HN : Hid (N = xs.length) := hN
  rw [pvs_length, ← hN] at hve
  have HVe : Hid (∀ g, (Value.slice a N c).ownBlock = some g → w0.heap.size ≤ g) := hve
  rw [← hN] at hX1
  clear hve
  have hbl : b1.l = enYs xs := hX1.l
  have c13 : w1.cell? ⟨gb, 3, none⟩ = some (.slice a N c) := hX1.blk.cell 3
  have hfy : (fdN p msg b1.l < b1.l.length ∧ fyV p msg xs = pV (xs.getD (fdN p msg (enYs xs)) noY).g) ∨ (¬ fdN p msg b1.l < b1.l.length ∧ fyV p msg xs = .pointer none) := by
    unfold fyV
    rw [hbl, enYs_length]
    by_cases h : fdN p msg (enYs xs) < xs.length
    · exact .inl ⟨h, if_pos h⟩
    · exact .inr ⟨h, if_neg h⟩
  have HFind : Hid (Calls Try.prog 30 #[.slice a N c, .string ⟨p.toArray⟩, .int .i64 msg] w1 fun r w' => r = .returned (fyV p msg xs) ∧ Below w1.heap.size w1 w') := find_any xs p msg _ w1 (RdC.of_own hX1.row) hX1.ent.enF
  have HX1 : Hid (BuX Kb w1 gb (.slice a N c) b1 xs) := hX1
  have HBl : Hid (b1.l = enYs xs) := hbl
  obtain ⟨x0, hx0⟩ : ∃ x0, x0 = fyV p msg xs := ⟨_, rfl⟩
  rw [← hx0] at HFind hfy
  clear hX1 hc1 hN hbl hx0 HExp HMay HRb
  rcases hfy with ⟨hfd, rfl⟩ | ⟨hfd, rfl⟩
  · -- the entry is there
    have hk0 : fdN p msg (enYs xs) < xs.length := by rw [HBl.out, enYs_length] at hfd; exact hfd
    obtain ⟨k0, hk0e⟩ : ∃ k0, k0 = fdN p msg (enYs xs) := ⟨_, rfl⟩
    have HK0 : Hid (k0 = fdN p msg (enYs xs)) := hk0e
    rw [← hk0e] at HFind hk0
    obtain ⟨y, hy⟩ : ∃ y, y = xs.getD k0 noY := ⟨_, rfl⟩
    have HY : Hid (y = xs.getD k0 noY) := hy
    rw [← hy] at HFind
    obtain ⟨vsy, hvy⟩ := HX1.out.ent _ (ey_mem hk0)
    rw [← hy] at hvy
    have HVy : Hid (EyP Kb w1 y vsy) := hvy
    obtain ⟨gy, hgy⟩ : ∃ g, g = y.g := ⟨_, rfl⟩
    have HGy : Hid (gy = y.g) := hgy
    rw [← hgy] at HFind
    have hent : b1.l.getD (fdN p msg b1.l) noE = y.e := by rw [HBl.out, ← hk0e, enYs_get xs hk0, hy]
    have HEy : Hid (EntS y.e) := by
      show EntS _
      rw [← hent]
      exact HS1.out.1.at hfd
    have HRA : Hid (R = (if y.e.parts.length ≠ n ∨ (y.e.parts.getD i [] ≠ [] ∧ y.e.parts.getD i [] ≠ body) then (b1, [], 41) else if y.e.parts.getD i [] ≠ [] then (b1, [], 0) else adG b1 p msg i n body now)) := by
      show _ = _
      rw [HR.out, if_pos hfd, hent]
    have HFd : Hid (fdN p msg (enYs xs) < xs.length) := by show _ < _; rw [← hk0e]; exact hk0
    clear hk0 hk0e hy hvy hgy hent HR hfd
    go_wp2_with fail
    refine Calls.mono HFind.out ?_
    rintro e w2 ⟨rfl, b2⟩
    have HB2 : Hid (Below w1.heap.size w1 w2) := b2
    clear b2 HFind
    go_wp2_with (refine wpList_alloc_blk rfl 66 rfl [.pointer none] (alloc_ep _) ?_)
    intro w3 r3 b3 s3
    obtain ⟨g16, hg16⟩ : ∃ g, g = w2.heap.size := ⟨_, rfl⟩
    rw [← hg16] at r3 ⊢
    have HGe : Hid (w1.heap.size ≤ g16) := by have := HB2.out.size; show _ ≤ _; omega
    have HB3 : Hid (Below w1.heap.size w1 w3) := stepB HB2.out b3
    clear s3 hg16 b3 HB2
    have e3 : w3.cell? ⟨g16, 0, none⟩ = some (.pointer none) := r3.cell 0
    have f3 := r3.free 0
    have hGA : BlkAt g16 66 [pV gy] (w3.setCell ⟨g16, 0, none⟩ (pV gy)) := r3.set 0 (pV gy)
    have hBA : Below w1.heap.size w1 (w3.setCell ⟨g16, 0, none⟩ (pV gy)) := (Wrote.set g16 0 w3 _).below _ _ HGe.out HB3.out
    obtain ⟨wA, hwA⟩ : ∃ wA, wA = w3.setCell ⟨g16, 0, none⟩ (pV gy) := ⟨_, rfl⟩
    have HWA : Hid (wA = w3.setCell ⟨g16, 0, none⟩ (pV gy)) := hwA
    rw [← hwA] at hGA hBA
    have HGA : Hid (BlkAt g16 66 [pV gy] wA) := hGA
    have HBA : Hid (Below w1.heap.size w1 wA) := hBA
    have HXA : Hid (BuX Kb wA gb (.slice a N c) b1 xs) := HX1.out.kept hBA
    have HCA : Hid (Cp Kb w0 wA) := HC1.out.below hBA
    have HRbA : Hid (Rd wA (.slice av M cv) body) := HRb1.out.kept hBA
    have HVA : Hid (EyP Kb wA y vsy) := HVy.out.kept hBA
    have eA : wA.cell? ⟨g16, 0, none⟩ = some (pV gy) := hGA.cell 0
    have HFits : Hid (Calls Try.prog 31 #[pV gy, .int .i64 (i : Int), .int .i64 (n : Int), .slice av M cv] wA fun e w' => e = .returned (.bool (fitB y.e i n body)) ∧ Below wA.heap.size wA w') := by
      show Calls _ _ _ _ _
      rw [HGy.out]
      exact fits_any Kb y vsy i n body _ wA HVA.out HIn.out.1 HRbA.out
    have e3w : (w3.setCell ⟨g16, 0, none⟩ (pV gy)).cell? ⟨g16, 0, none⟩ = some (pV gy) := by rw [← hwA]; exact eA
    rw [hwA] at HFits
    obtain ⟨fi, hfi⟩ : ∃ fi, fi = fitB y.e i n body := ⟨_, rfl⟩
    rw [← hfi] at HFits
    have HFi : Hid (fi = fitB y.e i n body) := hfi
    clear hwA hGA hBA r3 hfi eA HB3 HX1 HC1 HRb1 HVy
    go_wp2_with fail
    refine Calls.mono HFits.out ?_
    rintro e wB ⟨rfl, bB⟩
    have HBB : Hid (Below wA.heap.size wA wB) := by show Below _ _ _; rw [HWA.out]; exact bB
    clear bB e3w e3 f3 HFits
    have eB : wB.cell? ⟨g16, 0, none⟩ = some (pV gy) := BlkAt.cell (BlkAt.kept HGA.out HBB.out) 0
    cases fi with
    | false =>
      have HF : Hid (R = (b1, [], 41)) := by show _ = _; rw [HRA.out, if_pos (fitB_false.1 HFi.out.symm)]
      go_wp2
      go_ret2
      rw [HF.out]
      exact ⟨_, rfl, Rd.nil _, ⟨_, _, HXA.out.kept HBB.out⟩, HCA.out.below HBB.out⟩
    | true =>
      have hnf : ¬ (y.e.parts.length ≠ n ∨ (y.e.parts.getD i [] ≠ [] ∧ y.e.parts.getD i [] ≠ body)) := fun h => by
        have := fitB_false.2 h
        rw [← HFi.out] at this
        cases this
      have hpl : y.e.parts.length = n := Classical.byContradiction fun h => hnf (.inl h)
      have HPl : Hid (y.e.parts.length = n) := hpl
      have HHas : Hid (Calls Try.prog 32 #[pV gy, .int .i64 (i : Int)] wB fun e w' => e = .returned (.bool (hasB y.e i)) ∧ w' = wB) := by
        show Calls _ _ _ _ _
        rw [HGy.out]
        exact has_any Kb y vsy i wB (HVA.out.kept HBB.out) (by rw [HPl.out]; exact HIn.out.1)
      have HRB : Hid (R = (if y.e.parts.getD i [] ≠ [] then (b1, [], 0) else adG b1 p msg i n body now)) := by show _ = _; rw [HRA.out, if_neg hnf]
      obtain ⟨ha, hha⟩ : ∃ x, x = hasB y.e i := ⟨_, rfl⟩
      rw [← hha] at HHas
      have HHa : Hid (ha = hasB y.e i) := hha
      clear hnf hpl hha HRA
      go_wp2_with fail
      refine Calls.mono HHas.out ?_
      rintro e wC ⟨rfl, rfl⟩
      clear HHas
      cases ha with
      | true =>
        have HF : Hid (R = (b1, [], 0)) := by show _ = _; rw [HRB.out, if_pos (hasB_iff.1 HHa.out.symm)]
        go_wp2
        go_ret2
        rw [HF.out]
        exact ⟨_, rfl, Rd.nil _, ⟨_, _, HXA.out.kept HBB.out⟩, HCA.out.below HBB.out⟩
      | false =>
        have he0 : y.e.parts.getD i [] = [] := Classical.byContradiction fun h => by
          have := hasB_iff.2 h
          rw [← HHa.out] at this
          cases this
        have HE0 : Hid (y.e.parts.getD i [] = []) := he0
        have HRC : Hid (R = adG b1 p msg i n body now) := by show _ = _; rw [HRB.out, if_neg (fun h => h he0)]
        have HXC : Hid (BuX Kb wC gb (.slice a N c) b1 xs) := HXA.out.kept HBB.out
        have HCC : Hid (Cp Kb w0 wC) := HCA.out.below HBB.out
        have HRbC : Hid (Rd wC (.slice av M cv) body) := HRbA.out.kept HBB.out
        have HGC : Hid (BlkAt g16 66 [pV gy] wC) := BlkAt.kept HGA.out HBB.out
        clear HXA HCA HRbA HGA HGe
        clear he0 HRB HFi HHa HWA HVA
        have HRoom : Hid (Calls Try.prog 33 #[pV gb, .string ⟨p.toArray⟩, .int .i64 msg, .int .i64 (M : Int)] wC fun e w' => Below wC.heap.size wC w' ∧ ((rmL b1 p msg M = none ∧ ∃ v, e = .returned (.tuple #[v, .bool false])) ∨ ∃ v ys, e = .returned (.tuple #[v, .bool true]) ∧ rmL b1 p msg M = some (enYs ys) ∧ LsP (.slice a N c) wC.heap.size p msg xs ys v w')) := by
          have := room_any b1 xs (.slice a N c) gb p msg body.length (by have := HIn.out.2.2; omega) Kb wC (fun q hq => HKb.out q (Nat.le_trans HCC.out.size hq)) HXC.out HS1.out.1 HS1.out.2 HLim.out.1 HLim.out.2
          rw [← HM.out] at this
          exact this
        go_wp2_with fail
        refine Calls.mono HRoom.out ?_
        rintro e w5 ⟨b5, ⟨hno, v5, rfl⟩ | ⟨vl, ys, rfl, hsm, hLs⟩⟩
        · have HF : Hid (R = (b1, [], 42)) := by show _ = _; rw [HRC.out, adG_rm, ← HM.out, hno]
          have HB5 : Hid (Below wC.heap.size wC w5) := b5
          clear hno b5 HRoom
          go_wp2
          go_ret2
          rw [HF.out]
          exact ⟨_, rfl, Rd.nil _, ⟨_, _, HXC.out.kept HB5.out⟩, HCC.out.below HB5.out⟩
        · obtain ⟨al, cl, rfl, -, -, -⟩ := (RdC.of_own hLs.own).formF
          rw [pvs_length] at hLs ⊢
          have HX5 : Hid (BuX Kb w5 gb (.slice a N c) b1 xs) := HXC.out.kept b5
          have HG5 : Hid (BlkAt g16 66 [pV gy] w5) := BlkAt.kept HGC.out b5
          have HRb5 : Hid (Rd w5 (.slice av M cv) body) := HRbC.out.kept b5
          have HC5 : Hid (Cp Kb w0 w5) := HCC.out.below b5
          have f5 := BlkAt.free HX5.out.blk 3
          have c5 : w5.cell? ⟨gb, 3, none⟩ = some (.slice a N c) := HX5.out.blk.cell 3
          obtain ⟨L, hL⟩ : ∃ L, L = ys.length := ⟨_, rfl⟩
          rw [← hL] at hLs ⊢
          have hcw := Chg.of_wrote (Wrote.set gb 3 w5 (.slice al L cl))
          obtain ⟨w6, hw6⟩ : ∃ w6, w6 = w5.setCell ⟨gb, 3, none⟩ (.slice al L cl) := ⟨_, rfl⟩
          rw [← hw6] at hcw
          obtain ⟨bt, hbt⟩ : ∃ bt : Bf, bt = ⟨b1.pm, b1.am, b1.age, enYs ys⟩ := ⟨_, rfl⟩
          have HX6 : Hid (BuX Kb w6 gb (.slice al L cl) bt ys) := by
            show BuX _ _ _ _ _ _
            rw [hbt, hw6]
            have ho5 := hLs.own
            rw [hL] at ho5 ⊢
            refine HX5.out.list (fun q hq => HKb.out q (Nat.le_trans HC5.out.size hq)) hLs.sub hLs.ds rfl ho5 (fun g hg => ?_) (HX5.out.blk.set 3 _) (Chg.of_wrote (Wrote.set gb 3 w5 _))
            rcases hLs.kr g (by rw [hL]; exact hg) with h | h
            · exact HXC.out.kr g h.symm
            · exact HKb.out g (Nat.le_trans HCC.out.size h)
          have HG6 : Hid (BlkAt g16 66 [pV gy] w6) := BlkAt.chg HG5.out hcw (blk_ne HG5.out HX5.out.blk (by decide))
          have HRb6 : Hid (Rd w6 (.slice av M cv) body) := HRb5.out.chgF hcw (HOut.out.mono fun q hq => by rw [hq]; exact HKg.out)
          have HC6 : Hid (Cp Kb w0 w6) := by show Cp _ _ _; rw [hw6]; exact HC5.out.trans ((Cp.buf HX5.out.blk).mono fun q _ hq => by rw [hq]; exact HKg.out)
          obtain ⟨k, hk⟩ : ∃ k, k = fdN p msg (enYs ys) := ⟨_, rfl⟩
          have hfd := hLs.fd
          rw [← hk, ← HK0.out, ← HY.out] at hfd
          have hkl : k < ys.length := hfd.2.2 (by rw [HK0.out]; exact HFd.out)
          have HK6 : Hid (k < ys.length ∧ y = ys.getD k noY) := ⟨hkl, hfd.1.symm⟩
          have HE6 : Hid (y.e.parts.length = n ∧ y.e.parts.getD i [] = [] ∧ szE y.e ≤ 1000000 ∧ ys.length ≤ 1000000) := ⟨HPl.out, HE0.out, by have := szE_le HEy.out; omega, by have h1 := hLs.len; have h2 := HS1.out.2; rw [HBl.out, enYs_length] at h2; omega⟩
          have hadg : R = (if fuB (inE y.e i body).parts = true then (⟨bt.pm, bt.am, bt.age, (bt.l.set k (inE y.e i body)).eraseIdx k⟩, (inE y.e i body).parts.flatten, 0) else (⟨bt.pm, bt.am, bt.age, bt.l.set k (inE y.e i body)⟩, [], 0)) := by
            rw [HRC.out, adG_rm, ← HM.out, hsm, hbt]
            simp only
            rw [← hk, if_pos (show k < (enYs ys).length by rw [enYs_length]; exact hkl), enYs_get ys hkl, ← HK6.out.2]
          have HTf : Hid (fuB (inE y.e i body).parts = false → R = (⟨bt.pm, bt.am, bt.age, bt.l.set k (inE y.e i body)⟩, [], 0)) := by
            show _ → _
            intro h
            rw [hadg, if_neg (by rw [h]; decide)]
          have HTt : Hid (fuB (inE y.e i body).parts = true → R = (⟨bt.pm, bt.am, bt.age, (bt.l.set k (inE y.e i body)).eraseIdx k⟩, (inE y.e i body).parts.flatten, 0)) := by
            show _ → _
            intro h
            rw [hadg, if_pos h]
          obtain ⟨zs, hzs⟩ : ∃ zs, zs = ys := ⟨_, rfl⟩
          rw [← hzs] at HX6 HK6 HE6
          have e56 : (w5.setCell ⟨gb, 3, none⟩ (.slice al L cl)).cell? ⟨g16, 0, none⟩ = some (pV gy) := by rw [← hw6]; exact BlkAt.cell HG6.out 0
          have HW6 : Hid (w6 = w5.setCell ⟨gb, 3, none⟩ (.slice al L cl)) := hw6
          clear hw6 hLs hL hcw hbt hk hfd hkl hadg hzs b5 hsm HRoom HRC HXC HGC HCC HRbC HBA HX5 HG5 HRb5 HC5 HY HK0 HFd HPl HE0
          obtain ⟨vs6, hv6⟩ := HX6.out.ent _ (ey_mem HK6.out.1)
          rw [← HK6.out.2] at hv6
          have HV6 : Hid (EyP Kb w6 y vs6) := hv6
          have hK6 : ∀ q, w6.heap.size ≤ q → Kb q := fun q hq => HKb.out q (Nat.le_trans HC6.out.size hq)
          have HPut : Hid (Calls Try.prog 35 #[pV gy, .int .i64 (i : Int), .slice av M cv] w6 fun e w' => e = .returned (.tuple #[]) ∧ (∃ vs', EyP Kb w' ⟨y.g, y.b, inE y.e i body⟩ vs') ∧ Cp (fun q => q = y.g ∨ q = y.b) w6 w') := by
            show Calls _ _ _ _ _
            rw [HGy.out]
            exact put_any Kb y vs6 i body _ w6 hK6 HV6.out (by rw [HE6.out.1]; exact HIn.out.1) HE6.out.2.1 HRb6.out (by have := HIn.out.2.2; omega) HE6.out.2.2.1
          clear hv6 hK6
          go_wp2_with fail
          rw [← HW6.out]
          refine Calls.mono HPut.out ?_
          rintro e w7 ⟨rfl, ⟨vs7, hv7⟩, c7⟩
          have hX7 : BuX Kb w7 gb (.slice al L cl) ⟨bt.pm, bt.am, bt.age, bt.l.set k (inE y.e i body)⟩ (zs.set k ⟨y.g, y.b, inE y.e i body⟩) := by
            have h := HX6.out.put (w' := w7) (k := k) (e' := inE y.e i body) (vs' := vs7) HK6.out.1
            rw [← HK6.out.2] at h
            exact h hv7 c7.chg
          have HG7 : Hid (BlkAt g16 66 [pV gy] w7) := BlkAt.chg HG6.out c7.chg (by
            rintro (e | e)
            · exact blk_ne HG6.out HV6.out.blk (by decide) e
            · exact blk_ne HG6.out HV6.out.row (by decide) e)
          have HC7 : Hid (Cp Kb w0 w7) := HC6.out.trans (c7.mono fun q _ hq => by
            rcases hq with rfl | rfl
            · exact HV6.out.kg
            · exact HV6.out.kb)
          obtain ⟨e', he'⟩ : ∃ e', e' = inE y.e i body := ⟨_, rfl⟩
          rw [← he'] at hX7 hv7 HTf HTt
          have HEl : Hid (e'.parts.length = n ∧ szE e' ≤ 3000000) := by
            show _ ∧ _
            rw [he']
            refine ⟨by simp [inE]; exact HE6.out.1, ?_⟩
            rw [szE_put (by rw [HE6.out.1]; exact HIn.out.1) HE6.out.2.1]
            have := HE6.out.2.2.1
            have := HIn.out.2.2
            omega
          have HX7 : Hid (BuX Kb w7 gb (.slice al L cl) ⟨bt.pm, bt.am, bt.age, bt.l.set k e'⟩ (zs.set k ⟨y.g, y.b, e'⟩)) := hX7
          have HV7 : Hid (EyP Kb w7 ⟨y.g, y.b, e'⟩ vs7) := hv7
          have HWh : Hid (Calls Try.prog 36 #[pV gy] w7 fun e w' => e = .returned (.bool (fuB e'.parts)) ∧ w' = w7) := by
            show Calls _ _ _ _ _
            rw [HGy.out]
            exact whole_any Kb ⟨y.g, y.b, e'⟩ vs7 w7 HV7.out (by show e'.parts.length ≤ _; rw [HEl.out.1]; have := HIn.out.2.1; omega)
          have d167 : w7.cell? ⟨g16, 0, none⟩ = some (pV gy) := BlkAt.cell HG7.out 0
          obtain ⟨fu, hfu⟩ : ∃ fu, fu = fuB e'.parts := ⟨_, rfl⟩
          rw [← hfu] at HWh HTf HTt
          clear hX7 hv7 c7 hfu he' HPut HC6 HX6 HV6 HG6
          go_wp2_with fail
          refine Calls.mono HWh.out ?_
          rintro e w8 ⟨rfl, rfl⟩
          clear HWh
          cases fu with
          | false =>
            have HF : Hid _ := HTf.out rfl
            clear HTf HTt
            go_wp2
            go_ret2
            rw [HF.out]
            exact ⟨_, rfl, Rd.nil _, ⟨_, _, HX7.out⟩, HC7.out⟩
          | true =>
            have HF : Hid _ := HTt.out rfl
            clear HTf HTt
            have hzl : (zs.set k ⟨y.g, y.b, e'⟩).length = zs.length := List.length_set
            obtain ⟨zs7, hz7⟩ : ∃ zs7, zs7 = zs.set k ⟨y.g, y.b, e'⟩ := ⟨_, rfl⟩
            have hk7 : k < zs7.length := by rw [hz7, hzl]; exact HK6.out.1
            have hy7 : zs7.getD k noY = ⟨y.g, y.b, e'⟩ := by rw [hz7]; simp [HK6.out.1]
            have hle7 : zs7.length ≤ 1000000 := by rw [hz7, hzl]; exact HE6.out.2.2.2
            rw [← hz7] at HX7
            have hR7 : RdC w8 (.slice al L cl) (pvs zs7) := RdC.of_own HX7.out.row
            have hen7 : enYs zs7 = bt.l.set k e' := HX7.out.l.symm
            have hke : keY (fun z => decide (z.g = gy)) zs7 = zs7.eraseIdx k := by
              have := keY_erase HX7.out.dist hk7
              rw [hy7] at this
              rw [HGy.out]
              exact this
            have HEn : Hid ((bt.l.set k e').eraseIdx k = enYs (keY (fun z => decide (z.g = gy)) zs7)) := by
              show _ = _
              rw [hke, enYs_erase, hen7]
            have HWo : Hid (Calls Try.prog 26 #[.slice al L cl, .func (.func 37) #[] #[.pointer (some ⟨g16, 0, none⟩)]] w8 fun e w' => ∃ v', e = .returned v' ∧ w'.ownsRow w8.heap.size 66 1 v' (keY (fun z => decide (z.g = gy)) zs7).length (pvs (keY (fun z => decide (z.g = gy)) zs7)) ∧ Below w8.heap.size w8 w') := by
              refine without_any 37 #[.pointer (some ⟨g16, 0, none⟩)] (fun z => decide (z.g = gy)) zs7 _ w8 hR7 hle7 (fun args w => enters_byF Try.func37 (by kernel_rfl) rfl args w) fun z hz V hV => ?_
              refine cSame_any z.g g16 gy _ (enK e' y.b) V (BlkAt.kept (HX7.out.ent.enF z hz) hV) ?_ (cellF d167 hV)
              rw [HGy.out]
              exact BlkAt.kept HV7.out.blk hV
            have c73 : w8.cell? ⟨gb, 3, none⟩ = some (.slice al L cl) := HX7.out.blk.cell 3
            clear hzl hz7 hk7 hy7 hle7 hR7 hen7 hke
            go_wp2_with fail
            refine Calls.mono HWo.out ?_
            rintro e w9 ⟨v', rfl, ho, b9⟩
            have HX9 : Hid (BuX Kb w9 gb (.slice al L cl) ⟨bt.pm, bt.am, bt.age, bt.l.set k e'⟩ zs7) := HX7.out.kept b9
            have HV9 : Hid (EyP Kb w9 ⟨y.g, y.b, e'⟩ vs7) := HV7.out.kept b9
            have HB9 : Hid (Below w8.heap.size w8 w9) := b9
            have HG9 : Hid (BlkAt g16 66 [pV gy] w9) := BlkAt.kept HG7.out b9
            obtain ⟨a9, c9, rfl, -, -, -⟩ := (RdC.of_own ho).formF
            rw [pvs_length] at ho ⊢
            obtain ⟨n9, hn9⟩ : ∃ n9, n9 = (keY (fun z => decide (z.g = gy)) zs7).length := ⟨_, rfl⟩
            have HO9 : Hid (w9.ownsRow w8.heap.size 66 1 (.slice a9 n9 c9) (keY (fun z => decide (z.g = gy)) zs7).length (pvs (keY (fun z => decide (z.g = gy)) zs7))) := by
              show World.ownsRow _ _ _ _ _ _ _
              rw [hn9]
              exact ho
            rw [← hn9]
            have f9 := HX9.out.blk.free 3
            have c93 : w9.cell? ⟨gb, 3, none⟩ = some (.slice al L cl) := HX9.out.blk.cell 3
            clear ho b9 c73 HWo hn9
            have hcc := Chg.of_wrote (Wrote.set gb 3 w9 (.slice a9 n9 c9))
            have HX10 : Hid (BuX Kb (w9.setCell ⟨gb, 3, none⟩ (.slice a9 n9 c9)) gb (.slice a9 n9 c9) ⟨bt.pm, bt.am, bt.age, (bt.l.set k e').eraseIdx k⟩ (keY (fun z => decide (z.g = gy)) zs7)) :=
              HX9.out.keep (w0 := w8) (fun z => decide (z.g = gy)) (fun q hq => HKb.out q (Nat.le_trans HC7.out.size hq)) HB9.out.size HO9.out HEn.out
            have HV10 : Hid (EyP Kb (w9.setCell ⟨gb, 3, none⟩ (.slice a9 n9 c9)) ⟨y.g, y.b, e'⟩ vs7) := HV9.out.past HX9.out.blk (blk_ne HV9.out.blk HX9.out.blk (by decide)) (blk_ne HV9.out.row HX9.out.blk (by decide)) (by decide) hcc
            have hG10 : BlkAt g16 66 [pV gy] (w9.setCell ⟨gb, 3, none⟩ (.slice a9 n9 c9)) := BlkAt.chg HG9.out hcc (blk_ne HG9.out HX9.out.blk (by decide))
            have HC10 : Hid (Cp Kb w0 (w9.setCell ⟨gb, 3, none⟩ (.slice a9 n9 c9))) := (HC7.out.below HB9.out).trans ((Cp.buf HX9.out.blk).mono fun q _ hq => by rw [hq]; exact HX9.out.kb)
            have e16 : (w9.setCell ⟨gb, 3, none⟩ (.slice a9 n9 c9)).cell? ⟨g16, 0, none⟩ = some (pV gy) := hG10.cell 0
            have HGb : Hid (∃ b, b = y.b) := ⟨_, rfl⟩
            obtain ⟨yb, hyb⟩ := HGb.out
            have ey3 : (w9.setCell ⟨gb, 3, none⟩ (.slice a9 n9 c9)).cell? ⟨gy, 3, none⟩ = some (.slice (some ⟨yb, 0, none⟩) n n) := by
              rw [HGy.out, hyb]
              have := HV10.out.blk.cell 3
              rw [this]
              show some (Value.slice (some ⟨y.b, 0, none⟩) e'.parts.length e'.parts.length) = _
              rw [HEl.out.1]
            have HJ : Hid (Calls Try.prog 24 #[.slice (some ⟨yb, 0, none⟩) n n] (w9.setCell ⟨gb, 3, none⟩ (.slice a9 n9 c9)) fun e w' => ∃ r, e = .returned r ∧ New 5 (w9.setCell ⟨gb, 3, none⟩ (.slice a9 n9 c9)) r e'.parts.flatten w') := by
              have hL : e'.parts.length ≤ 1000000 := by rw [HEl.out.1]; have := HIn.out.2.1; omega
              have := HV10.out.rdL hL
              simp only [HEl.out.1] at this
              rw [hyb]
              refine join_any _ vs7 e'.parts _ this ?_
              unfold totL
              rw [List.length_flatten]
              have := HEl.out.2
              unfold szE at this
              omega
            clear hcc hG10 hyb d167
            go_wp2_with fail
            refine Calls.mono HJ.out ?_
            rintro e w11 ⟨vr, rfl, hN⟩
            have HN : Hid (New 5 _ vr e'.parts.flatten w11) := hN
            clear hN HJ
            go_wp2
            go_ret2
            rw [HF.out]
            exact ⟨vr, rfl, HN.out.rd, ⟨_, _, HX10.out.kept HN.out.2⟩, HC10.out.below HN.out.2⟩
  · -- no entry is there
    have HRC : Hid (R = adG b1 p msg i n body now) := by show _ = _; rw [HR.out, if_neg hfd]
    have HFd : Hid (¬ fdN p msg (enYs xs) < xs.length) := by show ¬ _; rw [HBl.out, enYs_length] at hfd; exact hfd
    clear hfd HR
    go_wp2_with fail
    refine Calls.mono HFind.out ?_
    rintro e w2 ⟨rfl, b2⟩
    have HB2 : Hid (Below w1.heap.size w1 w2) := b2
    clear b2 HFind
    go_wp2_with (refine wpList_alloc_blk rfl 66 rfl [.pointer none] (alloc_ep _) ?_)
    intro w3 r3 b3 s3
    obtain ⟨g16, hg16⟩ : ∃ g, g = w2.heap.size := ⟨_, rfl⟩
    rw [← hg16] at r3 ⊢
    have HGe : Hid (w1.heap.size ≤ g16) := by have := HB2.out.size; show _ ≤ _; omega
    have HB3 : Hid (Below w1.heap.size w1 w3) := stepB HB2.out b3
    clear s3 hg16 b3 HB2
    have e3 : w3.cell? ⟨g16, 0, none⟩ = some (.pointer none) := r3.cell 0
    have f3 := r3.free 0
    have hGA : BlkAt g16 66 [.pointer none] (w3.setCell ⟨g16, 0, none⟩ (.pointer none)) := r3.set 0 (.pointer none)
    have hBA : Below w1.heap.size w1 (w3.setCell ⟨g16, 0, none⟩ (.pointer none)) := (Wrote.set g16 0 w3 _).below _ _ HGe.out HB3.out
    have e3w : (w3.setCell ⟨g16, 0, none⟩ (.pointer none)).cell? ⟨g16, 0, none⟩ = some (.pointer none) := hGA.cell 0
    obtain ⟨wA, hwA⟩ : ∃ wA, wA = w3.setCell ⟨g16, 0, none⟩ (.pointer none) := ⟨_, rfl⟩
    have HWA : Hid (wA = w3.setCell ⟨g16, 0, none⟩ (.pointer none)) := hwA
    rw [← hwA] at hGA hBA
    have HGA : Hid (BlkAt g16 66 [.pointer none] wA) := hGA
    have HXA : Hid (BuX Kb wA gb (.slice a N c) b1 xs) := HX1.out.kept hBA
    have HCA : Hid (Cp Kb w0 wA) := HC1.out.below hBA
    have HRbA : Hid (Rd wA (.slice av M cv) body) := HRb1.out.kept hBA
    have HGv : Hid (∀ b, (Value.slice a N c).ownBlock = some b → b < g16) := by
      show ∀ b, _
      intro b hb
      exact Nat.lt_of_lt_of_le (HX1.out.row.lt b hb).2 HGe.out
    have HG0 : Hid (w0.heap.size ≤ g16) := Nat.le_trans HC1.out.size HGe.out
    have HKg16 : Hid (Kb g16) := HKb.out g16 (Nat.le_trans HC1.out.size HGe.out)
    clear hwA hGA hBA r3 HB3 HX1 HC1 HRb1
    have HRoom : Hid (Calls Try.prog 33 #[pV gb, .string ⟨p.toArray⟩, .int .i64 msg, .int .i64 (M : Int)] wA fun e w' => Below wA.heap.size wA w' ∧ ((rmL b1 p msg M = none ∧ ∃ v, e = .returned (.tuple #[v, .bool false])) ∨ ∃ v ys, e = .returned (.tuple #[v, .bool true]) ∧ rmL b1 p msg M = some (enYs ys) ∧ LsP (.slice a N c) wA.heap.size p msg xs ys v w')) := by
      have := room_any b1 xs (.slice a N c) gb p msg body.length (by have := HIn.out.2.2; omega) Kb wA (fun q hq => HKb.out q (Nat.le_trans HCA.out.size hq)) HXA.out HS1.out.1 HS1.out.2 HLim.out.1 HLim.out.2
      rw [← HM.out] at this
      exact this
    go_wp2_with fail
    rw [← HWA.out]
    refine Calls.mono HRoom.out ?_
    rintro e wR ⟨b5, ⟨hno, v5, rfl⟩ | ⟨vl, ys, rfl, hsm, hLs⟩⟩
    · have HF : Hid (R = (b1, [], 42)) := by show _ = _; rw [HRC.out, adG_rm, ← HM.out, hno]
      have HB5 : Hid (Below wA.heap.size wA wR) := b5
      clear hno b5 HRoom e3 e3w f3
      go_wp2
      go_ret2
      rw [HF.out]
      exact ⟨_, rfl, Rd.nil _, ⟨_, _, HXA.out.kept HB5.out⟩, HCA.out.below HB5.out⟩
    · clear e3 e3w f3
      obtain ⟨ar, cr, rfl, -, -, -⟩ := (RdC.of_own hLs.own).formF
      rw [pvs_length] at hLs ⊢
      have HX5 : Hid (BuX Kb wR gb (.slice a N c) b1 xs) := HXA.out.kept b5
      have HG5 : Hid (BlkAt g16 66 [.pointer none] wR) := BlkAt.kept HGA.out b5
      have HRb5 : Hid (Rd wR (.slice av M cv) body) := HRbA.out.kept b5
      have HC5 : Hid (Cp Kb w0 wR) := HCA.out.below b5
      have f5 := BlkAt.free HX5.out.blk 3
      have c5 : wR.cell? ⟨gb, 3, none⟩ = some (.slice a N c) := HX5.out.blk.cell 3
      obtain ⟨Lr, hL⟩ : ∃ L, L = ys.length := ⟨_, rfl⟩
      have HLr : Hid (Lr = ys.length) := hL
      have HVl : Hid (∀ b, (Value.slice ar Lr cr).ownBlock = some b → Kb b ∧ b ≠ gb ∧ b ≠ g16 ∧ w0.heap.size ≤ b) := by
        show ∀ b, _
        intro b hb
        rw [hL] at hb
        refine ⟨?_, own_neF hLs.own HX5.out.blk (by decide) b hb, ?_, ?_⟩
        · rcases hLs.kr b hb with h | h
          · exact HXA.out.kr b h.symm
          · exact HKb.out b (Nat.le_trans HCA.out.size h)
        · rcases hLs.kr b hb with h | h
          · exact Nat.ne_of_lt (HGv.out b h.symm)
          · have := BlkAt.lt HGA.out
            omega
        · rcases hLs.kr b hb with h | h
          · exact HVe.out b h.symm
          · exact Nat.le_trans HCA.out.size h
      have hlsl := hLs.len
      have HLb : Hid (Lr ≤ 1000) := by show _ ≤ _; have h2 := HS1.out.2; rw [HBl.out, enYs_length] at h2; omega
      rw [← hL] at hLs ⊢
      obtain ⟨b2, hb2⟩ : ∃ bt : Bf, bt = ⟨b1.pm, b1.am, b1.age, enYs ys⟩ := ⟨_, rfl⟩
      have hcw := Chg.of_wrote (Wrote.set gb 3 wR (.slice ar Lr cr))
      have hGSx : (wR.setCell ⟨gb, 3, none⟩ (.slice ar Lr cr)).cell? ⟨g16, 0, none⟩ = some (.pointer none) := BlkAt.cell (BlkAt.chg HG5.out hcw (blk_ne HG5.out HX5.out.blk (by decide))) 0
      obtain ⟨wS, hwS⟩ : ∃ wS, wS = wR.setCell ⟨gb, 3, none⟩ (.slice ar Lr cr) := ⟨_, rfl⟩
      have HWS : Hid (wS = wR.setCell ⟨gb, 3, none⟩ (.slice ar Lr cr)) := hwS
      have HXS : Hid (BuX Kb wS gb (.slice ar Lr cr) b2 ys) := by
        show BuX _ _ _ _ _ _
        rw [hb2, hwS]
        have ho5 := hLs.own
        rw [hL] at ho5 ⊢
        exact HX5.out.list (fun q hq => HKb.out q (Nat.le_trans HC5.out.size hq)) hLs.sub hLs.ds rfl ho5 (fun g hg => (HVl.out g (by rw [hL]; exact hg)).1) (HX5.out.blk.set 3 _) (Chg.of_wrote (Wrote.set gb 3 wR _))
      rw [← hwS] at hcw
      have HGS : Hid (BlkAt g16 66 [.pointer none] wS) := BlkAt.chg HG5.out hcw (blk_ne HG5.out HX5.out.blk (by decide))
      have HRbS : Hid (Rd wS (.slice av M cv) body) := HRb5.out.chgF hcw (HOut.out.mono fun q hq => by rw [hq]; exact HKg.out)
      have HCS : Hid (Cp Kb w0 wS) := by show Cp _ _ _; rw [hwS]; exact HC5.out.trans ((Cp.buf HX5.out.blk).mono fun q _ hq => by rw [hq]; exact HKg.out)
      have hkl : fdN p msg (enYs ys) = ys.length := by
        have h1 := hLs.fd.2
        have h2 := fdN_le p msg (enYs ys)
        rw [enYs_length] at h2
        have h3 : ¬ fdN p msg (enYs ys) < ys.length := fun h => HFd.out (h1.1 h)
        omega
      have hadg : ∀ y : Ent, y = ⟨p, msg, now, List.replicate n []⟩ → R = (if fuB (inE y i body).parts = true then (⟨b2.pm, b2.am, b2.age, ((b2.l ++ [y]).set ys.length (inE y i body)).eraseIdx ys.length⟩, (inE y i body).parts.flatten, 0) else (⟨b2.pm, b2.am, b2.age, (b2.l ++ [y]).set ys.length (inE y i body)⟩, [], 0)) := by
        intro y hy
        have hlen : ¬ fdN p msg (enYs ys) < (enYs ys).length := by rw [hkl, enYs_length]; omega
        have hget : (enYs ys ++ [y]).getD ys.length noE = y := by rw [← enYs_length ys]; simp
        rw [HRC.out, adG_rm, ← HM.out, hsm, hb2]
        simp only
        rw [if_neg hlen, hkl, ← hy, hget]
      have HAdg : Hid _ := hadg
      have HBeg : Hid (Calls Try.prog 34 #[.string ⟨p.toArray⟩, .int .i64 msg, .int .i64 (n : Int), .int .u64 (now : Int)] wS fun e w' => ∃ g b, e = .returned (pV g) ∧ wS.heap.size ≤ g ∧ wS.heap.size ≤ b ∧ BlkAt g 68 (enK ⟨p, msg, now, List.replicate n []⟩ b) w' ∧ BlkAt b 22 (List.replicate n (.slice none 0 0)) w' ∧ Below wS.heap.size wS w') :=
        begin_any p (by have := HP.out; omega) msg n (by have := HIn.out.2.1; omega) now wS
      clear hwS hcw hL hlsl hb2 hkl hadg hLs b5 hsm HRoom HRC HXA HGA HCA HRbA HX5 HG5 HRb5 HC5 HFd HGv HWA HGe
      go_wp2_with fail
      rw [← HWS.out]
      refine Calls.mono HBeg.out ?_
      rintro e wT ⟨gy, yb, rfl, hg1, hg2, hE, hP, bT⟩
      have HXT : Hid (BuX Kb wT gb (.slice ar Lr cr) b2 ys) := HXS.out.kept bT
      have HGT : Hid (BlkAt g16 66 [.pointer none] wT) := BlkAt.kept HGS.out bT
      have HRbT : Hid (Rd wT (.slice av M cv) body) := HRbS.out.kept bT
      have HCT : Hid (Cp Kb w0 wT) := HCS.out.below bT
      obtain ⟨y, hy⟩ : ∃ y : Ey, y = ⟨gy, yb, ⟨p, msg, now, List.replicate n []⟩⟩ := ⟨_, rfl⟩
      have HGy : Hid (gy = y.g) := by show _ = _; rw [hy]
      have HDs : Hid (DsP (ys ++ [y])) := DsP.grow HXS.out (by rw [hy]; exact hg1) (by rw [hy]; exact hg2)
      have HVT : Hid (EyP Kb wT y (List.replicate n (.slice none 0 0))) := by
        show EyP _ _ _ _
        rw [hy]
        refine ⟨hE, HKb.out _ (Nat.le_trans HCS.out.size hg1), HKb.out _ (Nat.le_trans HCS.out.size hg2), hP, by simp, fun j u hu => ?_⟩
        obtain ⟨hj, rfl⟩ := List.getElem?_eq_some_iff.1 hu
        rw [List.length_replicate] at hj
        have e1 : (List.replicate n ([] : List UInt8)).getD j [] = [] := by simp [hj]
        rw [List.getElem_replicate]
        show PcP Kb wT (.slice none 0 0) ((List.replicate n ([] : List UInt8)).getD j [])
        rw [e1]
        exact ⟨World.ownsRow_nil _ _ _ _, fun g hg => by simp [Value.ownBlock] at hg⟩
      have eT : wT.cell? ⟨g16, 0, none⟩ = some (.pointer none) := BlkAt.cell HGT.out 0
      have fT := BlkAt.free HGT.out 0
      have HEq : Hid (y.e = ⟨p, msg, now, List.replicate n []⟩) := by show _ = _; rw [hy]
      clear hg1 hg2 hE hP bT hy HBeg HXS HGS HRbS HCS HWS hGSx c5 f5
      go_wp2_with fail
      have hcu := Chg.of_wrote (Wrote.set g16 0 wT (pV gy))
      have hGU : BlkAt g16 66 [pV gy] (wT.setCell ⟨g16, 0, none⟩ (pV gy)) := BlkAt.set HGT.out 0 (pV gy)
      have hXU : BuX Kb (wT.setCell ⟨g16, 0, none⟩ (pV gy)) gb (.slice ar Lr cr) b2 ys := HXT.out.past HGT.out (fun b hb => (HVl.out b hb).2.2.1) hcu
      have hVU : EyP Kb (wT.setCell ⟨g16, 0, none⟩ (pV gy)) y (List.replicate n (.slice none 0 0)) := HVT.out.past HGT.out (blk_ne HVT.out.blk HGT.out (by decide)) (blk_ne HVT.out.row HGT.out (by decide)) (by decide) hcu
      have hRbU : Rd (wT.setCell ⟨g16, 0, none⟩ (pV gy)) (.slice av M cv) body := HRbT.out.chgF hcu (HOut.out.mono fun q hq => by rw [hq]; exact HKg16.out)
      have hCU : Cp Kb w0 (wT.setCell ⟨g16, 0, none⟩ (pV gy)) := HCT.out.fresh hcu fun q hq => ⟨by rw [hq]; exact HG0.out, by rw [hq]; exact HKg16.out⟩
      generalize wT.setCell ⟨g16, 0, none⟩ (pV gy) = wU at hcu hGU hXU hVU hRbU hCU ⊢
      have HGU : Hid (BlkAt g16 66 [pV gy] wU) := hGU
      have HXU : Hid (BuX Kb wU gb (.slice ar Lr cr) b2 ys) := hXU
      have HVU : Hid (EyP Kb wU y (List.replicate n (.slice none 0 0))) := hVU
      have HRbU : Hid (Rd wU (.slice av M cv) body) := hRbU
      have HCU : Hid (Cp Kb w0 wU) := hCU
      have hS : AddS gb g16 (.slice ar Lr cr) gy wU.drew := ⟨HXU.out.blk.cell 3, BlkAt.cell HGU.out 0⟩
      have HO : Hid (wU.ownsRow 0 66 1 (.slice ar Lr cr) Lr (pvs ys)) := by show World.ownsRow _ _ _ _ _ _ _; have := HXU.out.row; rw [← HLr.out] at this; exact this
      clear hcu hGU hXU hVU hRbU hCU HXT HGT HRbT HCT HVT eT fT
      refine wpV_begin 10 (AddS gb g16 (.slice ar Lr cr) gy) (by kernel_rfl) ?_
      refine vP_ (.inr hS) 0 rfl ⟨_, by intro W; go_simp <;> with_reducible rfl, ?_⟩
      try simp only [Act.put, pA_, pB_, pC_]
      refine vP_ (.inr hS) 1 rfl ⟨_, by intro W; go_simp <;> with_reducible rfl, ?_⟩
      try simp only [Act.put, pA_, pB_, pC_]
      refine vP_ (.inr hS) 2 rfl ⟨_, by intro W; go_simp <;> with_reducible rfl, ?_⟩
      try simp only [Act.put, pA_, pB_, pC_]
      refine vP_ (.inr hS) 3 rfl ⟨_, by intro W; go_simp <;> with_reducible rfl, ?_⟩
      try simp only [Act.put, pA_, pB_, pC_]
      refine vU_ hS 4 rfl ⟨_, by intro W hW; have cW := hW.c3; go_simp <;> with_reducible rfl, ?_⟩
      try simp only [Act.put, pA_, pB_, pC_]
      refine vU_ hS 5 rfl ⟨_, by intro W hW; have cW := hW.c16; go_simp <;> with_reducible rfl, ?_⟩
      try simp only [Act.put, pA_, pB_, pC_]
      refine vD_ 6 fun K hK => ?_
      go_simp
      refine hK.out _ _ (.inr (hS.kept (growB _))) ?_
      clear hK K
      replace hS := hS.kept (growB (.cells #[pV gy] 66))
      try simp only [Act.put, pA_, pB_, pC_]
      refine vD_ 7 fun K hK => ?_
      refine wp_append_ptr _ _ rfl _ Lr (pvs ys) rfl (own_keptG (w := wU.drew) HO.out (growB _)) ⟨wU.heap.size, 0, none⟩ (pV gy) rfl (newsF (w := wU.drew) (pV gy) rfl) rfl (by have := HLb.out; omega) ?_
      intro v8 wV hO8 hG8 hN8
      have hC8 := Chg.of_grown hG8
      obtain ⟨al, cl, rfl, -, -, -⟩ := (RdC.of_own hO8).formF
      obtain ⟨L, hL⟩ : ∃ L, L = (pvs ys ++ [pV gy]).length := ⟨_, rfl⟩
      rw [← hL] at hO8 hN8 ⊢
      have HLL : Hid (L = (pvs ys ++ [pV gy]).length) := hL
      clear hL
      refine hK.out _ _ (.inr (hS.chg hC8 (fun e => (HVl.out _ e.symm).2.1 rfl) (fun e => (HVl.out _ e.symm).2.2.1 rfl))) ?_
      clear hK K
      replace hS := hS.chg hC8 (fun e => (HVl.out _ e.symm).2.1 rfl) (fun e => (HVl.out _ e.symm).2.2.1 rfl)
      have c8 := hS.c3
      have hblk8 : BlkAt gb 63 (buK b2 (.slice ar Lr cr)) wV := BlkAt.chg (BlkAt.kept (w := wU.drew) HXU.out.blk (growB _)) hC8 (fun e => (HVl.out _ e.symm).2.1 rfl)
      have f8 := hblk8.free 3
      try simp only [Act.put, pA_, pB_, pC_]
      refine vP_ (.inr hS) 8 rfl ⟨_, by intro W; go_simp <;> with_reducible rfl, ?_⟩
      try simp only [Act.put, pA_, pB_, pC_]
      refine vP_ (.inr hS) 9 rfl ⟨_, by intro W; go_simp <;> with_reducible rfl, ?_⟩
      try simp only [Act.put, pA_, pB_, pC_]
      refine vD_ 10 fun K hK => ?_
      go_simp
      refine hK.out _ _ (.inl rfl) ?_
      clear hK K
      try simp only [Act.put, pA_, pB_, pC_]
      refine wpV_done (by kernel_rfl) ?_
      have hb0 : Below wU.heap.size wU (wU.drew.alloc (.cells #[pV gy] 66)) := stepB (Below.refl _ _).drew (growB _)
      obtain ⟨w6, hw6⟩ : ∃ w6, w6 = wV.setCell ⟨gb, 3, none⟩ (.slice al L cl) := ⟨_, rfl⟩
      have hcw := Chg.of_wrote (Wrote.set gb 3 wV (.slice al L cl))
      rw [← hw6] at hcw
      obtain ⟨bt, hbt⟩ : ∃ bt : Bf, bt = ⟨b2.pm, b2.am, b2.age, b2.l ++ [y.e]⟩ := ⟨_, rfl⟩
      obtain ⟨zs, hzs⟩ : ∃ zs, zs = ys ++ [y] := ⟨_, rfl⟩
      obtain ⟨k, hk⟩ : ∃ k, k = ys.length := ⟨_, rfl⟩
      have HX6 : Hid (BuX Kb w6 gb (.slice al L cl) bt zs) := by
        show BuX _ _ _ _ _ _
        rw [hbt, hw6, hzs]
        refine HXU.out.grow hb0 hC8 (HVU.out.kept hb0) HDs.out (by rw [← HLr.out, ← HGy.out]; exact hO8) fun g hg => ?_
        rcases hN8 with h | h
        · rw [h] at hg
          exact (HVl.out g hg).1
        · exact HKb.out g (Nat.le_trans (Nat.le_trans HCU.out.size hb0.size) (h g hg))
      have HG6 : Hid (BlkAt g16 66 [pV gy] w6) := BlkAt.chg (BlkAt.chg (BlkAt.kept HGU.out hb0) hC8 (fun e => (HVl.out _ e.symm).2.2.1 rfl)) hcw (blk_ne (BlkAt.chg (BlkAt.kept HGU.out hb0) hC8 (fun e => (HVl.out _ e.symm).2.2.1 rfl)) hblk8 (by decide))
      have HRb6 : Hid (Rd w6 (.slice av M cv) body) := ((HRbU.out.kept hb0).chgF hC8 (HOut.out.mono fun q hq => (HVl.out q hq.symm).1)).chgF hcw (HOut.out.mono fun q hq => by rw [hq]; exact HKg.out)
      have HC6 : Hid (Cp Kb w0 w6) := by show Cp _ _ _; rw [hw6]; exact ((HCU.out.below hb0).fresh hC8 fun q hq => ⟨(HVl.out q hq.symm).2.2.2, (HVl.out q hq.symm).1⟩).trans ((Cp.buf hblk8).mono fun q _ hq => by rw [hq]; exact HKg.out)
      have HK6 : Hid (k < zs.length ∧ y = zs.getD k noY) := by
        show _ ∧ _
        rw [hk, hzs]
        exact ⟨by simp, by simp⟩
      have HE6 : Hid (y.e.parts.length = n ∧ y.e.parts.getD i [] = [] ∧ szE y.e ≤ 1000000 ∧ zs.length ≤ 1000000) := by
        show _ ∧ _
        have hin := HIn.out.1
        have h1 := HLb.out
        have h2 := HLr.out
        rw [HEq.out, hzs, List.length_append, List.length_singleton]
        exact ⟨by simp, by simp [hin], by simp [szE], by omega⟩
      have HTf : Hid (fuB (inE y.e i body).parts = false → R = (⟨bt.pm, bt.am, bt.age, bt.l.set k (inE y.e i body)⟩, [], 0)) := by
        show _ → _
        intro h
        rw [HAdg.out y.e HEq.out, if_neg (by rw [h]; decide), hbt, hk]
      have HTt : Hid (fuB (inE y.e i body).parts = true → R = (⟨bt.pm, bt.am, bt.age, (bt.l.set k (inE y.e i body)).eraseIdx k⟩, (inE y.e i body).parts.flatten, 0)) := by
        show _ → _
        intro h
        rw [HAdg.out y.e HEq.out, if_pos h, hbt, hk]
      have e66 : (wV.setCell ⟨gb, 3, none⟩ (.slice al L cl)).cell? ⟨g16, 0, none⟩ = some (pV gy) := by rw [← hw6]; exact BlkAt.cell HG6.out 0
      have HW6 : Hid (w6 = wV.setCell ⟨gb, 3, none⟩ (.slice al L cl)) := hw6
      clear hw6 hcw hbt hzs hk hb0 hS c8 f8 hblk8 hO8 hG8 hN8 hC8 HXU HGU HVU HRbU HCU HO HAdg
      obtain ⟨vs6, hv6⟩ := HX6.out.ent _ (ey_mem HK6.out.1)
      rw [← HK6.out.2] at hv6
      have HV6 : Hid (EyP Kb w6 y vs6) := hv6
      have hK6 : ∀ q, w6.heap.size ≤ q → Kb q := fun q hq => HKb.out q (Nat.le_trans HC6.out.size hq)
      have HPut : Hid (Calls Try.prog 35 #[pV gy, .int .i64 (i : Int), .slice av M cv] w6 fun e w' => e = .returned (.tuple #[]) ∧ (∃ vs', EyP Kb w' ⟨y.g, y.b, inE y.e i body⟩ vs') ∧ Cp (fun q => q = y.g ∨ q = y.b) w6 w') := by
        show Calls _ _ _ _ _
        rw [HGy.out]
        exact put_any Kb y vs6 i body _ w6 hK6 HV6.out (by rw [HE6.out.1]; exact HIn.out.1) HE6.out.2.1 HRb6.out (by have := HIn.out.2.2; omega) HE6.out.2.2.1
      clear hv6 hK6
      go_wp2_with fail
      rw [← HW6.out]
      refine Calls.mono HPut.out ?_
      rintro e w7 ⟨rfl, ⟨vs7, hv7⟩, c7⟩
      have hX7 : BuX Kb w7 gb (.slice al L cl) ⟨bt.pm, bt.am, bt.age, bt.l.set k (inE y.e i body)⟩ (zs.set k ⟨y.g, y.b, inE y.e i body⟩) := by
        have h := HX6.out.put (w' := w7) (k := k) (e' := inE y.e i body) (vs' := vs7) HK6.out.1
        rw [← HK6.out.2] at h
        exact h hv7 c7.chg
      have HG7 : Hid (BlkAt g16 66 [pV gy] w7) := BlkAt.chg HG6.out c7.chg (by
        rintro (e | e)
        · exact blk_ne HG6.out HV6.out.blk (by decide) e
        · exact blk_ne HG6.out HV6.out.row (by decide) e)
      have HC7 : Hid (Cp Kb w0 w7) := HC6.out.trans (c7.mono fun q _ hq => by
        rcases hq with rfl | rfl
        · exact HV6.out.kg
        · exact HV6.out.kb)
      obtain ⟨e', he'⟩ : ∃ e', e' = inE y.e i body := ⟨_, rfl⟩
      rw [← he'] at hX7 hv7 HTf HTt
      have HEl : Hid (e'.parts.length = n ∧ szE e' ≤ 3000000) := by
        show _ ∧ _
        rw [he']
        refine ⟨by simp [inE]; exact HE6.out.1, ?_⟩
        rw [szE_put (by rw [HE6.out.1]; exact HIn.out.1) HE6.out.2.1]
        have := HE6.out.2.2.1
        have := HIn.out.2.2
        omega
      have HX7 : Hid (BuX Kb w7 gb (.slice al L cl) ⟨bt.pm, bt.am, bt.age, bt.l.set k e'⟩ (zs.set k ⟨y.g, y.b, e'⟩)) := hX7
      have HV7 : Hid (EyP Kb w7 ⟨y.g, y.b, e'⟩ vs7) := hv7
      have HWh : Hid (Calls Try.prog 36 #[pV gy] w7 fun e w' => e = .returned (.bool (fuB e'.parts)) ∧ w' = w7) := by
        show Calls _ _ _ _ _
        rw [HGy.out]
        exact whole_any Kb ⟨y.g, y.b, e'⟩ vs7 w7 HV7.out (by show e'.parts.length ≤ _; rw [HEl.out.1]; have := HIn.out.2.1; omega)
      have d167 : w7.cell? ⟨g16, 0, none⟩ = some (pV gy) := BlkAt.cell HG7.out 0
      obtain ⟨fu, hfu⟩ : ∃ fu, fu = fuB e'.parts := ⟨_, rfl⟩
      rw [← hfu] at HWh HTf HTt
      clear hX7 hv7 c7 hfu he' HPut HC6 HX6 HV6 HG6
      go_wp2_with fail
      refine Calls.mono HWh.out ?_
      rintro e w8 ⟨rfl, rfl⟩
      clear HWh
      cases fu with
      | false =>
        have HF : Hid _ := HTf.out rfl
        clear HTf HTt
        go_wp2
        go_ret2
        rw [HF.out]
        exact ⟨_, rfl, Rd.nil _, ⟨_, _, HX7.out⟩, HC7.out⟩
      | true =>
        have HF : Hid _ := HTt.out rfl
        clear HTf HTt
        have hzl : (zs.set k ⟨y.g, y.b, e'⟩).length = zs.length := List.length_set
        obtain ⟨zs7, hz7⟩ : ∃ zs7, zs7 = zs.set k ⟨y.g, y.b, e'⟩ := ⟨_, rfl⟩
        have hk7 : k < zs7.length := by rw [hz7, hzl]; exact HK6.out.1
        have hy7 : zs7.getD k noY = ⟨y.g, y.b, e'⟩ := by rw [hz7]; simp [HK6.out.1]
        have hle7 : zs7.length ≤ 1000000 := by rw [hz7, hzl]; exact HE6.out.2.2.2
        rw [← hz7] at HX7
        have hR7 : RdC w8 (.slice al L cl) (pvs zs7) := RdC.of_own HX7.out.row
        have hen7 : enYs zs7 = bt.l.set k e' := HX7.out.l.symm
        have hke : keY (fun z => decide (z.g = gy)) zs7 = zs7.eraseIdx k := by
          have := keY_erase HX7.out.dist hk7
          rw [hy7] at this
          rw [HGy.out]
          exact this
        have HEn : Hid ((bt.l.set k e').eraseIdx k = enYs (keY (fun z => decide (z.g = gy)) zs7)) := by
          show _ = _
          rw [hke, enYs_erase, hen7]
        have HWo : Hid (Calls Try.prog 26 #[.slice al L cl, .func (.func 37) #[] #[.pointer (some ⟨g16, 0, none⟩)]] w8 fun e w' => ∃ v', e = .returned v' ∧ w'.ownsRow w8.heap.size 66 1 v' (keY (fun z => decide (z.g = gy)) zs7).length (pvs (keY (fun z => decide (z.g = gy)) zs7)) ∧ Below w8.heap.size w8 w') := by
          refine without_any 37 #[.pointer (some ⟨g16, 0, none⟩)] (fun z => decide (z.g = gy)) zs7 _ w8 hR7 hle7 (fun args w => enters_byF Try.func37 (by kernel_rfl) rfl args w) fun z hz V hV => ?_
          refine cSame_any z.g g16 gy _ (enK e' y.b) V (BlkAt.kept (HX7.out.ent.enF z hz) hV) ?_ (cellF d167 hV)
          rw [HGy.out]
          exact BlkAt.kept HV7.out.blk hV
        have c73 : w8.cell? ⟨gb, 3, none⟩ = some (.slice al L cl) := HX7.out.blk.cell 3
        clear hzl hz7 hk7 hy7 hle7 hR7 hen7 hke
        go_wp2_with fail
        refine Calls.mono HWo.out ?_
        rintro e w9 ⟨v', rfl, ho, b9⟩
        have HX9 : Hid (BuX Kb w9 gb (.slice al L cl) ⟨bt.pm, bt.am, bt.age, bt.l.set k e'⟩ zs7) := HX7.out.kept b9
        have HV9 : Hid (EyP Kb w9 ⟨y.g, y.b, e'⟩ vs7) := HV7.out.kept b9
        have HB9 : Hid (Below w8.heap.size w8 w9) := b9
        have HG9 : Hid (BlkAt g16 66 [pV gy] w9) := BlkAt.kept HG7.out b9
        obtain ⟨a9, c9, rfl, -, -, -⟩ := (RdC.of_own ho).formF
        rw [pvs_length] at ho ⊢
        obtain ⟨n9, hn9⟩ : ∃ n9, n9 = (keY (fun z => decide (z.g = gy)) zs7).length := ⟨_, rfl⟩
        have HO9 : Hid (w9.ownsRow w8.heap.size 66 1 (.slice a9 n9 c9) (keY (fun z => decide (z.g = gy)) zs7).length (pvs (keY (fun z => decide (z.g = gy)) zs7))) := by
          show World.ownsRow _ _ _ _ _ _ _
          rw [hn9]
          exact ho
        rw [← hn9]
        have f9 := HX9.out.blk.free 3
        have c93 : w9.cell? ⟨gb, 3, none⟩ = some (.slice al L cl) := HX9.out.blk.cell 3
        clear ho b9 c73 HWo hn9
        have hcc := Chg.of_wrote (Wrote.set gb 3 w9 (.slice a9 n9 c9))
        have HX10 : Hid (BuX Kb (w9.setCell ⟨gb, 3, none⟩ (.slice a9 n9 c9)) gb (.slice a9 n9 c9) ⟨bt.pm, bt.am, bt.age, (bt.l.set k e').eraseIdx k⟩ (keY (fun z => decide (z.g = gy)) zs7)) :=
          HX9.out.keep (w0 := w8) (fun z => decide (z.g = gy)) (fun q hq => HKb.out q (Nat.le_trans HC7.out.size hq)) HB9.out.size HO9.out HEn.out
        have HV10 : Hid (EyP Kb (w9.setCell ⟨gb, 3, none⟩ (.slice a9 n9 c9)) ⟨y.g, y.b, e'⟩ vs7) := HV9.out.past HX9.out.blk (blk_ne HV9.out.blk HX9.out.blk (by decide)) (blk_ne HV9.out.row HX9.out.blk (by decide)) (by decide) hcc
        have hG10 : BlkAt g16 66 [pV gy] (w9.setCell ⟨gb, 3, none⟩ (.slice a9 n9 c9)) := BlkAt.chg HG9.out hcc (blk_ne HG9.out HX9.out.blk (by decide))
        have HC10 : Hid (Cp Kb w0 (w9.setCell ⟨gb, 3, none⟩ (.slice a9 n9 c9))) := (HC7.out.below HB9.out).trans ((Cp.buf HX9.out.blk).mono fun q _ hq => by rw [hq]; exact HX9.out.kb)
        have e16 : (w9.setCell ⟨gb, 3, none⟩ (.slice a9 n9 c9)).cell? ⟨g16, 0, none⟩ = some (pV gy) := hG10.cell 0
        have HGb : Hid (∃ b, b = y.b) := ⟨_, rfl⟩
        obtain ⟨yb, hyb⟩ := HGb.out
        have ey3 : (w9.setCell ⟨gb, 3, none⟩ (.slice a9 n9 c9)).cell? ⟨gy, 3, none⟩ = some (.slice (some ⟨yb, 0, none⟩) n n) := by
          rw [HGy.out, hyb]
          have := HV10.out.blk.cell 3
          rw [this]
          show some (Value.slice (some ⟨y.b, 0, none⟩) e'.parts.length e'.parts.length) = _
          rw [HEl.out.1]
        have HJ : Hid (Calls Try.prog 24 #[.slice (some ⟨yb, 0, none⟩) n n] (w9.setCell ⟨gb, 3, none⟩ (.slice a9 n9 c9)) fun e w' => ∃ r, e = .returned r ∧ New 5 (w9.setCell ⟨gb, 3, none⟩ (.slice a9 n9 c9)) r e'.parts.flatten w') := by
          have hL : e'.parts.length ≤ 1000000 := by rw [HEl.out.1]; have := HIn.out.2.1; omega
          have := HV10.out.rdL hL
          simp only [HEl.out.1] at this
          rw [hyb]
          refine join_any _ vs7 e'.parts _ this ?_
          unfold totL
          rw [List.length_flatten]
          have := HEl.out.2
          unfold szE at this
          omega
        clear hcc hG10 hyb d167
        go_wp2_with fail
        refine Calls.mono HJ.out ?_
        rintro e w11 ⟨vr, rfl, hN⟩
        have HN : Hid (New 5 _ vr e'.parts.flatten w11) := hN
        clear hN HJ
        go_wp2
        go_ret2
        rw [HF.out]
        exact ⟨vr, rfl, HN.out.rd, ⟨_, _, HX10.out.kept HN.out.2⟩, HC10.out.below HN.out.2⟩
end Go.Proofs.Ytkljklfejaojaaa
