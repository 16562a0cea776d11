/- Room is made: contracts of package frag, tenth part. -/
import Derived.Test.YtkljklfejaojaaaFg19i
namespace Go.Proofs.Ytkljklfejaojaaa
open Go.ChangeShapes Go.WideShapes Go.ChangeAt Go.RowKit
set_option linter.unusedSimpArgs false
set_option linter.unusedVariables false

theorem evF_yes {lim : Int} {p : List UInt8} {m : Int} {n k : Nat} {l : List Ent} (h : ((hdB l p : Nat) : Int) + (n : Int) ≤ lim) : evL lim p m n k l = some l := by
  cases k <;> simp [evL, h]
theorem evF_none {lim : Int} {p : List UInt8} {m : Int} {n k : Nat} {l : List Ent} (h0 : lim < ((hdB l p : Nat) : Int) + (n : Int)) (ho : odN p m l = none) : evL lim p m n k l = none := by
  have h : ¬ ((hdB l p : Nat) : Int) + (n : Int) ≤ lim := by omega
  cases k with
  | zero => rw [evL, if_neg h]
  | succ k => rw [evL, if_neg h, ho]
theorem evF_some {lim : Int} {p : List UInt8} {m : Int} {n k i : Nat} {l : List Ent} (h0 : lim < ((hdB l p : Nat) : Int) + (n : Int)) (ho : odN p m l = some i) (hk : l.length ≤ k) : ∃ k', (l.eraseIdx i).length ≤ k' ∧ evL lim p m n k l = evL lim p m n k' (l.eraseIdx i) := by
  have h : ¬ ((hdB l p : Nat) : Int) + (n : Int) ≤ lim := by omega
  have hi := (odS_lt ho).1
  cases k with
  | zero => omega
  | succ k => exact ⟨k, by rw [List.length_eraseIdx, if_pos hi]; omega, by rw [evL, if_neg h, ho]⟩
/-- An entry goes. -/
theorem keY_erase : ∀ {ys : List Ey} {i : Nat}, DsP ys → i < ys.length → keY (fun x => decide (x.g = (ys.getD i noY).g)) ys = ys.eraseIdx i
  | [], i, _, h => by simp at h
  | y :: ys, 0, hd, _ => by
    obtain ⟨h1, h2⟩ := List.pairwise_cons.1 hd
    simp only [List.getD_cons_zero, List.eraseIdx_cons_zero]
    unfold keY
    rw [List.filter_cons_of_neg (by simp)]
    refine List.filter_eq_self.2 fun x hx => ?_
    have := (h1 x hx).1
    simp only [Bool.not_eq_true', decide_eq_false_iff_not]
    exact fun e => this e.symm
  | y :: ys, i + 1, hd, h => by
    obtain ⟨h1, h2⟩ := List.pairwise_cons.1 hd
    have hi : i < ys.length := by simpa using h
    rw [List.getD_cons_succ, List.eraseIdx_cons_succ, ← keY_erase h2 hi]
    unfold keY
    rw [List.filter_cons_of_pos]
    have := (h1 _ (ey_mem hi)).1
    simp only [Bool.not_eq_true', decide_eq_false_iff_not]
    exact this
theorem enYs_erase (ys : List Ey) (i : Nat) : enYs (ys.eraseIdx i) = (enYs ys).eraseIdx i := by
  unfold enYs
  induction ys generalizing i with
  | nil => simp
  | cons y ys ih =>
    cases i with
    | zero => simp
    | succ i => simp [ih]
/-- An entry that goes is not the one that is looked for. -/
theorem find_eraseY {p : List UInt8} {m : Int} : ∀ {ys : List Ey} {i : Nat}, isE p m (ys.getD i noY).e = false → (ys.eraseIdx i).getD (fdN p m (enYs (ys.eraseIdx i))) noY = ys.getD (fdN p m (enYs ys)) noY ∧ (fdN p m (enYs (ys.eraseIdx i)) < (ys.eraseIdx i).length ↔ fdN p m (enYs ys) < ys.length)
  | [], i, h => by simp [fdN, enYs]
  | e :: l, 0, h => by
    simp only [List.getD_cons_zero] at h
    simp [fdN, enYs, h]
  | e :: l, i + 1, h => by
    rw [List.getD_cons_succ] at h
    have := find_eraseY h
    rw [List.eraseIdx_cons_succ]
    unfold enYs at this ⊢
    by_cases he : isE p m e.e = true
    · simp [fdN, he]
    · simp only [List.map_cons, fdN, he, Bool.false_eq_true, if_false, List.getD_cons_succ, List.length_cons, Nat.add_lt_add_iff_right]
      exact this
theorem isE_of_ot {p : List UInt8} {m : Int} {e : Ent} (h : otE p m e = true) : isE p m e = false := by
  unfold otE at h
  unfold isE
  simp only [Bool.and_eq_true, Bool.not_eq_true', decide_eq_false_iff_not] at h
  rw [decide_eq_false h.2, Bool.and_false]
/-- What is left once there is room. -/
def rmL (b : Bf) (p : List UInt8) (m : Int) (n : Nat) : Option (List Ent) := match evL b.pm p m n b.l.length b.l with
  | none => none
  | some l2 => if b.am < ((ttB l2 : Nat) : Int) + (n : Int) then none else some l2
/-- A list of a buffer's entries, in a row of its own. -/
structure LsP (ve : Value) (B : Nat) (p : List UInt8) (m : Int) (xs ys : List Ey) (v : Value) (w : World) : Prop where
  own : w.ownsRow 0 66 1 v ys.length (pvs ys)
  kr : ∀ g, v.ownBlock = some g → some g = ve.ownBlock ∨ B ≤ g
  sub : ∀ y ∈ ys, y ∈ xs
  ds : DsP ys
  len : ys.length ≤ xs.length
  fd : ys.getD (fdN p m (enYs ys)) noY = xs.getD (fdN p m (enYs xs)) noY ∧ (fdN p m (enYs ys) < ys.length ↔ fdN p m (enYs xs) < xs.length)
theorem LsP.kept {ve : Value} {B : Nat} {p : List UInt8} {m : Int} {xs ys : List Ey} {v : Value} {w w' : World} (h : LsP ve B p m xs ys v w) (hb : Below w.heap.size w w') : LsP ve B p m xs ys v w' := ⟨own_keptG h.own hb, h.kr, h.sub, h.ds, h.len, h.fd⟩
def lenV : Value → Nat
  | .slice _ n _ => n
  | _ => 0
theorem alloc_ep (w : World) : (Instr.alloc 66 true (.tuple #[])).run Try.prog w = .ok (.pointer (some ⟨w.heap.size, 0, none⟩)) (w.alloc (.cells #[.pointer none] 66)) := by kernel_rfl
theorem bodyPost_two19 {P : Program} {fn : Func} {R : Ending → World → Prop} {a : Act} {w : World} {t u : Tmp} (h : fn.results = #[.tmp t, .tmp u]) (hd : a.defers = []) (hR : R (.returned (.tuple #[a.tmps.getD t undef, a.tmps.getD u undef])) w) : bodyPost P fn R .ret a w :=
  bodyPost_ret (results_tmp2 h _ _ _) hd hR

set_option maxRecDepth 100000 in
set_option maxHeartbeats 4000000 in
theorem room_any (bf : Bf) (xs : List Ey) (ve : Value) (gb : Nat) (p : List UInt8) (m : Int) (n : Nat) (hn : n ≤ 2000) (K : Nat → Prop) (w : World) (hK : ∀ k, w.heap.size ≤ k → K k) (hX : BuX K w gb ve bf xs) (hs : EnS bf.l) (hl : bf.l.length ≤ 1000)
    (hp : 0 ≤ bf.pm ∧ bf.pm ≤ 9223372036854775807) (ha : 0 ≤ bf.am ∧ bf.am ≤ 9223372036854775807) :
    Calls Try.prog 33 #[pV gb, .string ⟨p.toArray⟩, .int .i64 m, .int .i64 (n : Int)] w fun e w' => Below w.heap.size w w' ∧ ((rmL bf p m n = none ∧ ∃ v, e = .returned (.tuple #[v, .bool false])) ∨ ∃ v ys, e = .returned (.tuple #[v, .bool true]) ∧ rmL bf p m n = some (enYs ys) ∧ LsP ve w.heap.size p m xs ys v w') := by
  have hle : bf.l = enYs xs := hX.l
  have hxl : xs.length ≤ 1000 := by rw [hle, enYs_length] at hl; exact hl
  obtain ⟨a, c, rfl, -, hc3, -⟩ := (RdC.of_own hX.row).formF
  rw [pvs_length] at hX ⊢
  have c3 : w.cell? ⟨gb, 3, none⟩ = some (.slice a xs.length c) := hX.blk.cell 3
  have c0 : w.cell? ⟨gb, 0, none⟩ = some (.int .i64 bf.pm) := hX.blk.cell 0
  have c1 : w.cell? ⟨gb, 1, none⟩ = some (.int .i64 bf.am) := hX.blk.cell 1
  have HE : Hid (EnF xs w) := hX.ent.enF
  have HRm : Hid (rmL bf p m n = match evL bf.pm p m n xs.length (enYs xs) with
      | none => none
      | some l2 => if bf.am < ((ttB l2 : Nat) : Int) + (n : Int) then none else some l2) := by
    show _ = _
    unfold rmL
    rw [hle, enYs_length]
  rw [hle] at hs
  have hsy : ∀ ys : List Ey, (∀ y ∈ ys, y ∈ xs) → EnS (enYs ys) := fun ys h e he => by
    obtain ⟨y, hy, rfl⟩ := List.mem_map.1 he
    exact hs _ (List.mem_map.2 ⟨y, h y hy, rfl⟩)
  have HS : Hid (∀ ys : List Ey, (∀ y ∈ ys, y ∈ xs) → EnS (enYs ys)) := hsy
  obtain ⟨N, hN⟩ : ∃ N, N = xs.length := ⟨_, rfl⟩
  have HL0 : Hid (LsP (.slice a xs.length c) w.heap.size p m xs xs (.slice a xs.length c) w) := ⟨hX.row, fun g hg => .inl hg.symm, fun _ h => h, hX.dist, Nat.le_refl _, rfl, Iff.rfl⟩
  have HK : Hid (∀ k, w.heap.size ≤ k → K k) := hK
  obtain ⟨ev0, hev0⟩ : ∃ e, e = evL bf.pm p m n xs.length (enYs xs) := ⟨_, rfl⟩
  have HEv0 : Hid (ev0 = evL bf.pm p m n xs.length (enYs xs)) := hev0
  rw [← hev0] at HRm
  rw [← hN] at HL0 c3 hxl ⊢
  have HN : Hid (N = xs.length) := hN
  obtain ⟨pm, hpm⟩ : ∃ x, x = bf.pm := ⟨_, rfl⟩
  obtain ⟨am, ham⟩ : ∃ x, x = bf.am := ⟨_, rfl⟩
  rw [← hpm] at c0 hp HEv0
  rw [← ham] at c1 ha HRm
  have w1e : IntKind.i64.wrap (pm - (n : Int)) = pm - (n : Int) := IntWalk.i64_in _ (by omega)
  have w2e : IntKind.i64.wrap (am - (n : Int)) = am - (n : Int) := IntWalk.i64_in _ (by omega)
  obtain ⟨dp, hdp⟩ : ∃ x, x = pm - (n : Int) := ⟨_, rfl⟩
  obtain ⟨da, hda⟩ : ∃ x, x = am - (n : Int) := ⟨_, rfl⟩
  rw [← hdp] at w1e
  rw [← hda] at w2e
  have hw1 : IntKind.i64.wrap (pm - (n : Int)) = dp := by rw [hdp]; exact IntWalk.i64_in _ (by omega)
  have hw2 : IntKind.i64.wrap (am - (n : Int)) = da := by rw [hda]; exact IntWalk.i64_in _ (by omega)
  have HD : Hid (dp = pm - (n : Int) ∧ da = am - (n : Int)) := ⟨hdp, hda⟩
  have HN1 : Hid (N ≤ 1000) := hxl
  clear hX hK hs hl hle hxl hc3 hN hev0 hpm ham hdp hda w1e w2e hp ha hn hsy
  go_enter Try.func33, Try.ntmps33
  go_wp2
  go_loopw [10] (fun lv wx => ∃ (ys : List Ey) (a' : Option Addr) (c' : Nat), lv = .slice a' ys.length c' ∧ Hid (LsP (.slice a N c) w.heap.size p m xs ys lv wx) ∧ Hid (∃ k, ys.length ≤ k ∧ ev0 = evL pm p m n k (enYs ys)) ∧ Below w.heap.size w wx) (fun lv _ => lenV lv)
  case atStart => exact ⟨xs, a, c, by rw [HN.out], HL0, ⟨_, Nat.le_refl _, HEv0.out⟩, Below.refl _ _⟩
  case round =>
    obtain ⟨ys, a', c', rfl, HLs, HEv, hbx⟩ := hrel
    have hyl : ys.length ≤ 1000 := by have := HLs.out.len; have := HN1.out; have := HN.out; omega
    have HSy : Hid (EnS (enYs ys)) := HS.out ys HLs.out.sub
    have HEy : Hid (EnF ys wr) := EnF.kept (fun y hy => HE.out y (HLs.out.sub y hy)) hbx
    have HRd : Hid (RdC wr (.slice a' ys.length c') (pvs ys)) := RdC.of_own HLs.out.own
    have HHeld : Hid (∀ W, Below wr.heap.size wr W → Calls Try.prog 44 #[.slice a' ys.length c', .string ⟨p.toArray⟩] W fun r w' => r = .returned (.int .i64 (hdB (enYs ys) p : Int)) ∧ Below W.heap.size W w') := fun W hW =>
      held_any ys p _ hyl HSy.out W (HRd.out.kept hW) (HEy.out.kept hW)
    have HTot : Hid (∀ W, Below wr.heap.size wr W → Calls Try.prog 42 #[.slice a' ys.length c'] W fun r w' => r = .returned (.int .i64 (ttB (enYs ys) : Int)) ∧ Below W.heap.size W w') := fun W hW =>
      total_any ys _ hyl HSy.out W (HRd.out.kept hW) (HEy.out.kept hW)
    have HOld : Hid (∀ W, Below wr.heap.size wr W → Calls Try.prog 49 #[.slice a' ys.length c', .string ⟨p.toArray⟩, .int .i64 m] W fun e w' => e = .returned (olV p m ys) ∧ Below W.heap.size W w') := fun W hW =>
      oldest_any p m ys _ W (HRd.out.kept hW) (HEy.out.kept hW) hyl
    obtain ⟨hd, hhd⟩ : ∃ x : Nat, x = hdB (enYs ys) p := ⟨_, rfl⟩
    obtain ⟨tt, htt⟩ : ∃ x : Nat, x = ttB (enYs ys) := ⟨_, rfl⟩
    rw [← hhd] at HHeld
    rw [← htt] at HTot
    have HHd : Hid (hd = hdB (enYs ys) p) := hhd
    have HTt : Hid (tt = ttB (enYs ys)) := htt
    have HB : Hid (Below w.heap.size w wr) := hbx
    have d0 := cellF c0 hbx
    have d1 := cellF c1 hbx
    obtain ⟨k, hk⟩ : ∃ k, k = ys.length := ⟨_, rfl⟩
    rw [← hk] at HLs HRd HHeld HTot HOld hyl ⊢
    have HKl : Hid (k = ys.length) := hk
    clear hhd htt hbx HL0
    by_cases hgt : dp < (hd : Int)
    · have hdc : decide (dp < (hd : Int)) = true := decide_eq_true hgt
      have HLim : Hid (pm < ((hdB (enYs ys) p : Nat) : Int) + (n : Int)) := by show _ < _; have := HD.out.1; have := HHd.out; omega
      obtain ⟨r, hr⟩ : ∃ r, r = olV p m ys := ⟨_, rfl⟩
      rw [← hr] at HOld
      cases ho : odN p m (enYs ys) with
      | none =>
        have hrn : r = .pointer none := by rw [hr, olV, ho]
        subst hrn
        have HNo : Hid (rmL bf p m n = none) := by
          show _ = _
          obtain ⟨k', hk', e'⟩ := HEv.out
          rw [HRm.out, e', evF_none HLim.out ho]
        clear hr ho hk hgt
        go_wp2_with fail
        refine wpG_begin (by kernel_rfl) ?_
        refine gU_ 0 rfl ⟨_, by intro W hW; go_simp <;> with_reducible rfl, ?_⟩
        try simp only [Act.put, pA_, pB_, pC_]
        refine gU_ 1 rfl ⟨_, by intro W hW; go_simp <;> with_reducible rfl, ?_⟩
        try simp only [Act.put, pA_, pB_, pC_]
        refine gU_ 3 rfl ⟨_, by intro W hW; go_simp <;> with_reducible rfl, ?_⟩
        try simp only [Act.put, pA_, pB_, pC_]
        refine gU_ 4 rfl ⟨_, by intro W hW; go_simp <;> with_reducible rfl, ?_⟩
        try simp only [Act.put, pA_, pB_, pC_]
        refine gU_ 5 rfl ⟨_, by intro W hW; go_simp <;> with_reducible rfl, ?_⟩
        try simp only [Act.put, pA_, pB_, pC_]
        refine gU_ 6 rfl ⟨_, by intro W hW; go_simp <;> with_reducible rfl, ?_⟩
        try simp only [Act.put, pA_, pB_, pC_]
        refine gU_ 7 rfl ⟨_, by intro W hW; have hcW := cellFD d0 hW; go_simp <;> with_reducible rfl, ?_⟩
        try simp only [Act.put, pA_, pB_, pC_]
        refine gU_ 8 rfl ⟨_, by intro W hW; go_simp <;> with_reducible rfl, ?_⟩
        try simp only [Act.put, pA_, pB_, pC_]
        refine gU_ 9 rfl ⟨_, by intro W hW; go_simp <;> with_reducible rfl, ?_⟩
        try simp only [Act.put, pA_, pB_, pC_]
        refine gD_ 2 fun K hK => ?_
        go_simp
        refine (HHeld.out _ (Below.refl _ _).drew).mono ?_
        rintro e w3 ⟨rfl, b3⟩
        refine hK.out _ _ b3 ?_
        clear hK K
        try simp only [Act.put, pA_, pB_, pC_]
        refine gU_ 10 rfl ⟨_, by intro W hW; go_simp <;> with_reducible rfl, ?_⟩
        try simp only [Act.put, pA_, pB_, pC_]
        refine wpG_done (by kernel_rfl) ?_
        have HB3 : Hid (Below wr.heap.size wr w3) := stepB (Below.refl _ _).drew b3
        clear b3
        go_wp2_with fail
        refine (HOld.out _ HB3.out).mono ?_
        rintro e w4 ⟨rfl, b4⟩
        have HB4 : Hid (Below wr.heap.size wr w4) := stepB HB3.out b4
        clear b4 HB3
        go_wp2_with (refine wpList_alloc_blk rfl 66 rfl [.pointer none] (alloc_ep _) ?_)
        intro w5 r5 b5 s5
        obtain ⟨g5, hg5⟩ : ∃ g, g = w4.heap.size := ⟨_, rfl⟩
        rw [← hg5] at r5 ⊢
        have HGe : Hid (wr.heap.size ≤ g5) := by have := HB4.out.size; show _ ≤ _; omega
        have HB5 : Hid (Below wr.heap.size wr w5) := stepB HB4.out b5
        clear s5 hg5 b5 HB4
        have e5 := r5.cell 0
        replace e5 : w5.cell? ⟨g5, 0, none⟩ = some (.pointer none) := e5
        have f5 := r5.free 0
        clear r5
        go_wp2
        go_ret2
        exact ⟨(Wrote.set g5 0 w5 _).below _ _ (Nat.le_trans HB.out.size HGe.out) (stepB HB.out HB5.out), .inl ⟨HNo.out, _, rfl⟩⟩
      | some i =>
        have hil : i < ys.length := by have := (odS_lt ho).1; rwa [enYs_length] at this
        have hrs : r = pV (ys.getD i noY).g := by rw [hr, olV, ho]
        obtain ⟨h, hh⟩ : ∃ h, h = (ys.getD i noY).g := ⟨_, rfl⟩
        rw [← hh] at hrs
        subst hrs
        obtain ⟨zs, hzs⟩ : ∃ zs, zs = ys.eraseIdx i := ⟨_, rfl⟩
        have HW : Hid (∀ W g, Below wr.heap.size wr W → W.cell? ⟨g, 0, none⟩ = some (pV h) → Calls Try.prog 26 #[.slice a' k c', .func (.func 50) #[] #[.pointer (some ⟨g, 0, none⟩)]] W fun e w' => ∃ v', e = .returned v' ∧ w'.ownsRow W.heap.size 66 1 v' zs.length (pvs zs) ∧ Below W.heap.size W w') := by
          show ∀ W, _
          intro W g hW hg
          have e1 := keY_erase HLs.out.ds hil
          rw [← hh, ← hzs] at e1
          rw [← e1]
          refine without_any 50 #[.pointer (some ⟨g, 0, none⟩)] (fun x => decide (x.g = h)) ys _ W (HRd.out.kept hW) (by omega) (fun args w => enters_byF Try.func50 (by kernel_rfl) rfl args w) fun x hx V hV => ?_
          have hb := hW.trans (hV.mono hW.size)
          refine cRoom_any x.g g h _ (enK (ys.getD i noY).e (ys.getD i noY).b) V (BlkAt.kept (HEy.out x hx) hb) ?_ (cellF hg hV)
          rw [hh]
          exact BlkAt.kept (HEy.out.at hil) hb
        have HEv2 : Hid (∃ k, zs.length ≤ k ∧ ev0 = evL pm p m n k (enYs zs)) := by
          show ∃ k, _
          obtain ⟨k1, hk1, e'⟩ := HEv.out
          obtain ⟨k2, hk2, e2⟩ := evF_some HLim.out ho (by rw [enYs_length]; exact hk1)
          refine ⟨k2, ?_, ?_⟩
          · rw [← enYs_length, hzs, enYs_erase]; exact hk2
          · rw [e', e2, hzs, enYs_erase]
        have HZ : Hid (zs.length < k ∧ (∀ y ∈ zs, y ∈ xs) ∧ DsP zs ∧ zs.length ≤ xs.length ∧ zs.getD (fdN p m (enYs zs)) noY = xs.getD (fdN p m (enYs xs)) noY ∧ (fdN p m (enYs zs) < zs.length ↔ fdN p m (enYs xs) < xs.length)) := by
          have hot := (odS_lt ho).2
          rw [enYs_get _ hil] at hot
          have hfe := find_eraseY (isE_of_ot hot)
          rw [← hzs] at hfe
          have hz1 : zs.length + 1 = ys.length := by rw [hzs, List.length_eraseIdx, if_pos hil]; omega
          refine ⟨by have := HKl.out; omega, fun y hy => HLs.out.sub y ?_, ?_, by have := HLs.out.len; omega, hfe.1.trans HLs.out.fd.1, hfe.2.trans HLs.out.fd.2⟩
          · rw [hzs] at hy
            exact List.mem_of_mem_eraseIdx hy
          · rw [hzs]
            exact List.Pairwise.sublist (List.eraseIdx_sublist ys i) HLs.out.ds
        clear hr ho hk hgt hil hh hzs HLs HRd HEy HSy HTot HTt HEv
        go_wp2_with fail
        refine wpG_begin (by kernel_rfl) ?_
        refine gU_ 0 rfl ⟨_, by intro W hW; go_simp <;> with_reducible rfl, ?_⟩
        try simp only [Act.put, pA_, pB_, pC_]
        refine gU_ 1 rfl ⟨_, by intro W hW; go_simp <;> with_reducible rfl, ?_⟩
        try simp only [Act.put, pA_, pB_, pC_]
        refine gU_ 3 rfl ⟨_, by intro W hW; go_simp <;> with_reducible rfl, ?_⟩
        try simp only [Act.put, pA_, pB_, pC_]
        refine gU_ 4 rfl ⟨_, by intro W hW; go_simp <;> with_reducible rfl, ?_⟩
        try simp only [Act.put, pA_, pB_, pC_]
        refine gU_ 5 rfl ⟨_, by intro W hW; go_simp <;> with_reducible rfl, ?_⟩
        try simp only [Act.put, pA_, pB_, pC_]
        refine gU_ 6 rfl ⟨_, by intro W hW; go_simp <;> with_reducible rfl, ?_⟩
        try simp only [Act.put, pA_, pB_, pC_]
        refine gU_ 7 rfl ⟨_, by intro W hW; have hcW := cellFD d0 hW; go_simp <;> with_reducible rfl, ?_⟩
        try simp only [Act.put, pA_, pB_, pC_]
        refine gU_ 8 rfl ⟨_, by intro W hW; go_simp <;> with_reducible rfl, ?_⟩
        try simp only [Act.put, pA_, pB_, pC_]
        refine gU_ 9 rfl ⟨_, by intro W hW; go_simp <;> with_reducible rfl, ?_⟩
        try simp only [Act.put, pA_, pB_, pC_]
        refine gD_ 2 fun K hK => ?_
        go_simp
        refine (HHeld.out _ (Below.refl _ _).drew).mono ?_
        rintro e w3 ⟨rfl, b3⟩
        refine hK.out _ _ b3 ?_
        clear hK K
        try simp only [Act.put, pA_, pB_, pC_]
        refine gU_ 10 rfl ⟨_, by intro W hW; go_simp <;> with_reducible rfl, ?_⟩
        try simp only [Act.put, pA_, pB_, pC_]
        refine wpG_done (by kernel_rfl) ?_
        have HB3 : Hid (Below wr.heap.size wr w3) := stepB (Below.refl _ _).drew b3
        clear b3
        go_wp2_with fail
        refine (HOld.out _ HB3.out).mono ?_
        rintro e w4 ⟨rfl, b4⟩
        have HB4 : Hid (Below wr.heap.size wr w4) := stepB HB3.out b4
        clear b4 HB3
        go_wp2_with (refine wpList_alloc_blk rfl 66 rfl [.pointer none] (alloc_ep _) ?_)
        intro w5 r5 b5 s5
        obtain ⟨g5, hg5⟩ : ∃ g, g = w4.heap.size := ⟨_, rfl⟩
        rw [← hg5] at r5 ⊢
        have HGe : Hid (wr.heap.size ≤ g5) := by have := HB4.out.size; show _ ≤ _; omega
        have HB5 : Hid (Below wr.heap.size wr w5) := stepB HB4.out b5
        clear s5 hg5 b5 HB4
        have e5 := r5.cell 0
        replace e5 : w5.cell? ⟨g5, 0, none⟩ = some (.pointer none) := e5
        have f5 := r5.free 0
        have HR6 : Hid (BlkAt g5 66 [pV h] (w5.setCell ⟨g5, 0, none⟩ (pV h))) := r5.set 0 (pV h)
        have HB6 : Hid (Below wr.heap.size wr (w5.setCell ⟨g5, 0, none⟩ (pV h))) := (Wrote.set g5 0 w5 _).below _ _ HGe.out HB5.out
        have e6 : (w5.setCell ⟨g5, 0, none⟩ (pV h)).cell? ⟨g5, 0, none⟩ = some (pV h) := HR6.out.cell 0
        clear r5
        go_wp2_with fail
        refine (HW.out _ g5 HB6.out e6).mono ?_
        rintro e w7 ⟨v', rfl, ho, b7⟩
        obtain ⟨a2, c2, rfl, -, -, -⟩ := (RdC.of_own ho).formF
        rw [pvs_length] at ho ⊢
        have HB7 : Hid (Below w.heap.size w w7) := stepB HB.out (stepB HB6.out b7)
        have HL7 : Hid (LsP (.slice a N c) w.heap.size p m xs zs (.slice a2 zs.length c2) w7) := ⟨own_monoG ho (Nat.zero_le _), fun g hg => .inr (Nat.le_trans (stepB HB.out HB6.out).size (ho.lt g hg).1), HZ.out.2.1, HZ.out.2.2.1, HZ.out.2.2.2.1, HZ.out.2.2.2.2⟩
        clear ho b7
        go_wp2
        go_roundw
        case rel => exact ⟨zs, a2, c2, rfl, HL7, HEv2, HB7.out⟩
        case measure => exact HZ.out.1
    · have hdc : decide (dp < (hd : Int)) = false := decide_eq_false hgt
      have hle : (hd : Int) ≤ dp := by omega
      have HEq : Hid (ev0 = some (enYs ys)) := by
        show _ = _
        obtain ⟨k', hk', e'⟩ := HEv.out
        rw [e']
        exact evF_yes (by have := HD.out.1; have := HHd.out; omega)
      clear hk hgt HEv
      go_wp2_with fail
      refine wpG_begin (by kernel_rfl) ?_
      refine gU_ 0 rfl ⟨_, by intro W hW; go_simp <;> with_reducible rfl, ?_⟩
      try simp only [Act.put, pA_, pB_, pC_]
      refine gU_ 1 rfl ⟨_, by intro W hW; go_simp <;> with_reducible rfl, ?_⟩
      try simp only [Act.put, pA_, pB_, pC_]
      refine gU_ 3 rfl ⟨_, by intro W hW; go_simp <;> with_reducible rfl, ?_⟩
      try simp only [Act.put, pA_, pB_, pC_]
      refine gU_ 4 rfl ⟨_, by intro W hW; go_simp <;> with_reducible rfl, ?_⟩
      try simp only [Act.put, pA_, pB_, pC_]
      refine gU_ 5 rfl ⟨_, by intro W hW; go_simp <;> with_reducible rfl, ?_⟩
      try simp only [Act.put, pA_, pB_, pC_]
      refine gU_ 6 rfl ⟨_, by intro W hW; go_simp <;> with_reducible rfl, ?_⟩
      try simp only [Act.put, pA_, pB_, pC_]
      refine gU_ 7 rfl ⟨_, by intro W hW; have hcW := cellFD d0 hW; go_simp <;> with_reducible rfl, ?_⟩
      try simp only [Act.put, pA_, pB_, pC_]
      refine gU_ 8 rfl ⟨_, by intro W hW; go_simp <;> with_reducible rfl, ?_⟩
      try simp only [Act.put, pA_, pB_, pC_]
      refine gU_ 9 rfl ⟨_, by intro W hW; go_simp <;> with_reducible rfl, ?_⟩
      try simp only [Act.put, pA_, pB_, pC_]
      refine gD_ 2 fun K hK => ?_
      go_simp
      refine (HHeld.out _ (Below.refl _ _).drew).mono ?_
      rintro e w3 ⟨rfl, b3⟩
      refine hK.out _ _ b3 ?_
      clear hK K
      try simp only [Act.put, pA_, pB_, pC_]
      refine gU_ 10 rfl ⟨_, by intro W hW; go_simp <;> with_reducible rfl, ?_⟩
      try simp only [Act.put, pA_, pB_, pC_]
      refine wpG_done (by kernel_rfl) ?_
      have HB3 : Hid (Below wr.heap.size wr w3) := stepB (Below.refl _ _).drew b3
      have d13 := cellF d1 HB3.out
      clear b3
      go_wp2_with fail
      refine wpG_begin (by kernel_rfl) ?_
      refine gU_ 0 rfl ⟨_, by intro W hW; go_simp <;> with_reducible rfl, ?_⟩
      try simp only [Act.put, pA_, pB_, pC_]
      refine gU_ 1 rfl ⟨_, by intro W hW; go_simp <;> with_reducible rfl, ?_⟩
      try simp only [Act.put, pA_, pB_, pC_]
      refine gU_ 3 rfl ⟨_, by intro W hW; go_simp <;> with_reducible rfl, ?_⟩
      try simp only [Act.put, pA_, pB_, pC_]
      refine gU_ 4 rfl ⟨_, by intro W hW; go_simp <;> with_reducible rfl, ?_⟩
      try simp only [Act.put, pA_, pB_, pC_]
      refine gU_ 5 rfl ⟨_, by intro W hW; go_simp <;> with_reducible rfl, ?_⟩
      try simp only [Act.put, pA_, pB_, pC_]
      refine gU_ 6 rfl ⟨_, by intro W hW; go_simp <;> with_reducible rfl, ?_⟩
      try simp only [Act.put, pA_, pB_, pC_]
      refine gU_ 7 rfl ⟨_, by intro W hW; have hcW := cellFD d13 hW; go_simp <;> with_reducible rfl, ?_⟩
      try simp only [Act.put, pA_, pB_, pC_]
      refine gU_ 8 rfl ⟨_, by intro W hW; go_simp <;> with_reducible rfl, ?_⟩
      try simp only [Act.put, pA_, pB_, pC_]
      refine gU_ 9 rfl ⟨_, by intro W hW; go_simp <;> with_reducible rfl, ?_⟩
      try simp only [Act.put, pA_, pB_, pC_]
      refine gD_ 2 fun K hK => ?_
      go_simp
      refine (HTot.out _ (stepB HB3.out (Below.refl _ _).drew)).mono ?_
      rintro e w4 ⟨rfl, b4⟩
      refine hK.out _ _ b4 ?_
      clear hK K
      try simp only [Act.put, pA_, pB_, pC_]
      refine gU_ 10 rfl ⟨_, by intro W hW; go_simp <;> with_reducible rfl, ?_⟩
      try simp only [Act.put, pA_, pB_, pC_]
      refine gU_ 11 rfl ⟨_, by intro W hW; go_simp <;> with_reducible rfl, ?_⟩
      try simp only [Act.put, pA_, pB_, pC_]
      refine gU_ 12 rfl ⟨_, by intro W hW; go_simp <;> with_reducible rfl, ?_⟩
      try simp only [Act.put, pA_, pB_, pC_]
      refine wpG_done (by kernel_rfl) ?_
      have HB4 : Hid (Below w.heap.size w w4) := stepB HB.out (stepB (stepB HB3.out (Below.refl _ _).drew) b4)
      have HL4 : Hid (LsP (.slice a N c) w.heap.size p m xs ys (.slice a' k c') w4) := HLs.out.kept (stepB (stepB HB3.out (Below.refl _ _).drew) b4)
      clear b4
      by_cases hta : (tt : Int) ≤ da
      · have hdt : decide ((tt : Int) ≤ da) = true := decide_eq_true hta
        have HF : Hid (rmL bf p m n = some (enYs ys)) := by
          show _ = _
          rw [HRm.out, HEq.out]
          exact if_neg (by have := HD.out.2; have := HTt.out; omega)
        clear hta
        go_wp2
        go_ret2
        exact ⟨HB4.out, .inr ⟨_, ys, by rw [← hdt]; rfl, HF.out, HL4.out⟩⟩
      · have hdt : decide ((tt : Int) ≤ da) = false := decide_eq_false hta
        have htb : da < (tt : Int) := by omega
        have HF : Hid (rmL bf p m n = none) := by
          show _ = _
          rw [HRm.out, HEq.out]
          exact if_pos (by have := HD.out.2; have := HTt.out; omega)
        clear hta
        go_wp2
        go_ret2
        exact ⟨HB4.out, .inl ⟨HF.out, _, by rw [← hdt]; rfl⟩⟩
end Go.Proofs.Ytkljklfejaojaaa
