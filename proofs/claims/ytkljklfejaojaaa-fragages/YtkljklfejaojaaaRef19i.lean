/- A piece is put into a buffer: contracts of the reference of layer 19, ninth part. -/
import Derived.Test.YtkljklfejaojaaaRef19h
import Derived.Test.YtkljklfejaojaaaReg
import Derived.Deep.DeepCutAuto
namespace Go.Proofs.Ytkljklfejaojaaa
open Go.ChangeShapes Go.WideShapes Go.ChangeAt Go.RowKit
set_option linter.unusedSimpArgs false
set_option linter.unusedVariables false

theorem map_sv (ls : List (List UInt8)) : ∀ x ∈ ls.map sv, ∃ s, x = .string s := by
  intro x hx
  obtain ⟨l, -, rfl⟩ := List.mem_map.1 hx
  exact ⟨_, rfl⟩
/-- Entries do not lie in a block that holds no texts. -/
theorem EnR.past {w w' : World} {v : Value} {l : List Ent} {g : Nat} {ty : TypeId} {cs : List Value} (h : EnR w v l) (hb : BlkAt g ty cs w) (hn : NoS cs) (c : Chg (fun b => b = g) w w') : EnR w' v l := by
  obtain ⟨vs, h1, ⟨hl, a, k, e1, h2, h3, h5⟩, h4⟩ := h.form
  refine ⟨vs, h1, ⟨hl, a, k, e1, h2, h3, h5.imp id ?_⟩, fun k hk => (h4 k hk).past18 (map_sv _) hb hn c⟩
  rintro ⟨b, off, e2, hc⟩
  refine ⟨b, off, e2, fun i hi => ?_⟩
  have hl0 : 0 < l.length := by rw [hl] at hi; omega
  have h0 := hc (0 * 4 + 0) (by rw [hl]; omega)
  rw [enC_at h1 hl0 (by decide)] at h0
  have hne : b ≠ g := by
    rintro rfl
    rw [hb.cell] at h0
    exact hn _ _ h0
  have h6 := hc i hi
  have h7 : (enC l vs)[i]? = some (enC l vs)[i] := by simp [hi]
  rw [h7] at h6 ⊢
  exact chg_cell18 c h6 hne
theorem bfD_no (B : Bf) (a : Option Addr) (n c : Nat) : NoS (bfD B (.slice a n c)) := by
  intro j s
  match j with
  | 0 => simp [bfD]
  | 1 => simp [bfD]
  | 2 => simp [bfD]
  | 3 => simp [bfD]
  | j + 4 => simp [bfD]
theorem zbD_no : NoS zbD := bfD_no ⟨0, 0, 0, []⟩ none 0 0
theorem EnS.filter {l : List Ent} (h : EnS l) (f : Ent → Bool) : EnS (l.filter f) := fun e he => h e (List.mem_filter.1 he).1
theorem EnS.erase {l : List Ent} (h : EnS l) (i : Nat) : EnS (l.eraseIdx i) := fun e he => h e (List.mem_of_mem_eraseIdx he)
theorem mayG_of {msg part parts : Int} {n : Nat} (h : mayG msg part parts n = true) : 0 ≤ msg ∧ msg ≤ 7 ∧ 1 ≤ parts ∧ parts ≤ 64 ∧ 0 ≤ part ∧ part < parts ∧ 1 ≤ n ∧ n ≤ 1024 := by
  have := of_decide_eq_true h
  omega
theorem alloc_en (w : World) : (Instr.alloc 71 true (.tuple #[])).run Try.prog w = .ok (.pointer (some ⟨w.heap.size, 0, none⟩)) (w.alloc (.cells #[.string ⟨#[]⟩, .int .i64 0, .int .u64 0, .slice none 0 0] 71)) := by kernel_rfl
def zeD : List Value := [.string ⟨#[]⟩, .int .i64 0, .int .u64 0, .slice none 0 0]
theorem enD_one (e : Ent) (a : Option Addr) (n c : Nat) : (enD e (.slice a n c)).toArray.all (·.oneCell') = true := by kernel_rfl

theorem ev_yes {lim : Int} {p : List UInt8} {m : Int} {n k : Nat} {l : List Ent} (h : ((hdB l p : Nat) : Int) + (n : Int) ≤ lim) : evL lim p m n k l = some l := by
  cases k <;> simp [evL, h]
theorem ev_none {lim : Int} {p : List UInt8} {m : Int} {n k : Nat} {l : List Ent} (h0 : lim < ((hdB l p : Nat) : Int) + (n : Int)) (ho : odN p m l = none) : evL lim p m n k l = none := by
  have h : ¬ ((hdB l p : Nat) : Int) + (n : Int) ≤ lim := by omega
  cases k with
  | zero => rw [evL, if_neg h]
  | succ k => rw [evL, if_neg h, ho]
theorem ev_some {lim : Int} {p : List UInt8} {m : Int} {n k i : Nat} {l : List Ent} (h0 : lim < ((hdB l p : Nat) : Int) + (n : Int)) (ho : odN p m l = some i) (hk : l.length ≤ k) : ∃ k', (l.eraseIdx i).length ≤ k' ∧ evL lim p m n k l = evL lim p m n k' (l.eraseIdx i) := by
  have h : ¬ ((hdB l p : Nat) : Int) + (n : Int) ≤ lim := by omega
  have hi := (odS_lt ho).1
  cases k with
  | zero => omega
  | succ k => exact ⟨k, by rw [List.length_eraseIdx, if_pos hi]; omega, by rw [evL, if_neg h, ho]⟩
/-- Entries going, till there is room. -/
structure Lp (g1 g2 g4 : Nat) (B : Bf) (v1 : Value) (p : List UInt8) (m : Int) (n : Nat) (w wx : World) (l : List Ent) (a : Option Addr) (k c : Nat) : Prop where
  r1 : BlkAt g1 40 (bfD ⟨B.pm, B.am, B.age, l⟩ (.slice a k c)) wx
  en : EnR wx (.slice a k c) l
  len : k = l.length
  small : EnS l
  le : l.length ≤ 500
  r2 : BlkAt g2 40 zbD wx
  r4 : BlkAt g4 40 (bfD B v1) wx
  old : EnR wx v1 B.l
  below : Below w.heap.size w wx
  ev : ∃ f, l.length ≤ f ∧ evL B.pm p m n f l = evL B.pm p m n B.l.length B.l
/-- How many entries a buffer's block holds. -/
def lenAt (g : Nat) (w : World) : Nat := match w.cell? ⟨g, 3, none⟩ with
  | some (.slice _ n _) => n
  | _ => 0
theorem lenAt_of {g : Nat} {B : Bf} {a : Option Addr} {n c : Nat} {w : World} (h : BlkAt g 40 (bfD B (.slice a n c)) w) : lenAt g w = n := by
  unfold lenAt
  rw [h.cell 3]
  rfl

theorem enC_set : ∀ {l : List Ent} {vs : List Value} {k : Nat} {e : Ent} {v : Value}, vs.length = l.length → k < l.length → e.peer = (l.getD k noE).peer → e.msg = (l.getD k noE).msg → e.born = (l.getD k noE).born → (enC l vs).set (k * 4 + 3) v = enC (l.set k e) (vs.set k v)
  | d :: l, u :: vs, 0, e, v, h, hk, h1, h2, h3 => by
    simp only [List.getD_cons_zero] at h1 h2 h3
    simp only [enC, List.set_cons_zero, Nat.zero_mul, Nat.zero_add]
    rw [List.set_append_left _ _ (by simp [enD])]
    simp [enD, h1, h2, h3]
  | d :: l, u :: vs, k + 1, e, v, h, hk, h1, h2, h3 => by
    simp only [List.getD_cons_succ] at h1 h2 h3
    simp only [enC, List.set_cons_succ]
    rw [List.set_append_right _ _ (by simp [enD]; omega), show (k + 1) * 4 + 3 - (enD d u).length = k * 4 + 3 by simp [enD]; omega, enC_set (by simpa using h) (by simpa using hk) h1 h2 h3]
/-- One's own row of entries, one of which a piece is to be put into. -/
structure Ins (wA w : World) (v : Value) (l : List Ent) (vs : List Value) (k n : Nat) : Prop where
  len : vs.length = l.length
  own : OwnG wA [⟨71, 4, v, l.length, enC l vs⟩] w
  kl : k < l.length
  pl : (l.getD k noE).parts.length = n
  at' : RdC w (vs.getD k undef) ((l.getD k noE).parts.map sv)
  ot : ∀ i, i < l.length → i ≠ k → RdC wA (vs.getD i undef) ((l.getD i noE).parts.map sv)
theorem build_en (p : List UInt8) (m : Int) (b : Nat) (ps : List (List UInt8)) (a : Option Addr) (n c : Nat) (w : World) : (Instr.build 71 #[(0, .string ⟨p.toArray⟩), (1, .int .i64 m), (2, .int .u64 (b : Int)), (3, .slice a n c)]).run Try.prog w = .ok (.agg (enD ⟨p, m, b, ps⟩ (.slice a n c)).toArray) w := by kernel_rfl
theorem infoStr19z : ∃ i, Try.prog.info? 9 = some i ∧ i.zero = some (.string ⟨#[]⟩) ∧ i.size = 1 ∧ i.bytes = 16 := ⟨_, rfl, rfl, rfl, rfl⟩
theorem addP19 (x y z : List UInt8) (X Y Z : ByteArray) (hX : X = ⟨x.toArray⟩) (hY : Y = ⟨y.toArray⟩) (hZ : Z = ⟨z.toArray⟩) (hz : z = x ++ y) (hx : x.length ≤ 100000) (hy : y.length ≤ 100000) (W : World) : (Op.stringOp .add X Y).run Try.prog W = .ok (.string Z) W := by
  subst hX hY hZ hz
  exact run_string_add_lists W x y (by omega) (by omega)
theorem fuB_not {ps : List (List UInt8)} {i : Nat} (h : i < ps.length) (hx : ps.getD i [] = []) : fuB ps = false := by
  unfold fuB
  rw [List.all_eq_false]
  refine ⟨ps[i], List.getElem_mem h, ?_⟩
  have : ps.getD i [] = ps[i] := by simp [h]
  rw [this] at hx
  simp [hx]
theorem fuB_yes {ps : List (List UInt8)} (h : ∀ i, i < ps.length → ps.getD i [] ≠ []) : fuB ps = true := by
  unfold fuB
  rw [List.all_eq_true]
  intro x hx
  obtain ⟨i, hi, rfl⟩ := List.getElem_of_mem hx
  have := h i hi
  have e : ps.getD i [] = ps[i] := by simp [hi]
  rw [e] at this
  simpa using this
theorem zeStr (n : Nat) : (madeCells #[Value.string ⟨#[]⟩] n).toList = (List.replicate n ([] : List UInt8)).map sv := by
  rw [List.map_replicate]
  refine List.ext_getElem (by simp [madeCells]) fun i h1 h2 => ?_
  simp [madeCells, sv, Nat.mod_one]

set_option maxRecDepth 100000 in
set_option maxHeartbeats 8000000 in
theorem add19_any (B : Bf) (hl : B.l.length ≤ 500) (hs : EnS B.l) (p : List UInt8) (hp : p.length ≤ 1000) (msg part parts : Int) (body : List UInt8) (now : Nat) (hnow : now < 18446744073709551616) (A : Array Value) (v vb : Value) (hA : A = (bfD B v).toArray) (w : World) (hr : EnR w v B.l) (hb : Rd w vb body) :
    Calls Try.prog 18 #[.agg A, .string ⟨p.toArray⟩, .int .i64 msg, .int .i64 part, .int .i64 parts, vb, .int .u64 (now : Int)] w fun r w' => ∃ v', r = .returned (.tuple #[.agg (bfD (adF B p msg part parts body now).1 v').toArray, .string ⟨(adF B p msg part parts body now).2.1.toArray⟩, .int .i64 (adF B p msg part parts body now).2.2]) ∧ EnR w' v' (adF B p msg part parts body now).1.l ∧ Below w.heap.size w w' := by
  subst hA
  obtain ⟨a, c, rfl, h2, h3⟩ := hr.len
  unfold maxLen at h3
  obtain ⟨n, hn⟩ : ∃ n : Nat, n = B.l.length := ⟨_, rfl⟩
  have HN : Hid (n = B.l.length) := hn
  rw [← hn] at hr hl h2 ⊢
  obtain ⟨ab, cb, rfl, -⟩ := id hb
  obtain ⟨L, hL⟩ : ∃ L : Nat, L = body.length := ⟨_, rfl⟩
  have HL : Hid (L = body.length) := hL
  rw [← hL] at hb ⊢
  have HR : Hid (EnR w (.slice a n c) B.l) := hr
  have HB : Hid (Rd w (.slice ab L cb) body) := hb
  have HS : Hid (EnS B.l) := hs
  have HNow : Hid (now < 18446744073709551616) := hnow
  have HPl : Hid (p.length ≤ 1000) := hp
  have HMy : Hid (∀ w : World, _) := may19_any msg part parts L
  have HAd : Hid (adF B p msg part parts body now = if mayG msg part parts L = true then (adF B p msg part parts body now) else (B, [], 1)) := by
    show _ = _
    by_cases h : mayG msg part parts L = true
    · rw [if_pos h]
    · rw [if_neg h]
      unfold adF
      rw [← hL, if_neg h]
  obtain ⟨R, hR⟩ : ∃ R, R = adF B p msg part parts body now := ⟨_, rfl⟩
  rw [← hR] at HAd ⊢
  have HRR : Hid (R = adF B p msg part parts body now) := hR
  clear hn hr hb hL hs hR hp hnow
  go_enter Try.func18, Try.ntmps18
  go_wp2_with (refine wpList_box_blk rfl 40 _ rfl (bfD B (.slice a n c)) (by rfl) ?_)
  intro w1 r1 b1 s1
  obtain ⟨g1, hg1⟩ : ∃ g : Nat, g = w.heap.size := ⟨_, rfl⟩
  rw [← hg1] at r1 ⊢
  have HG1 : Hid (w.heap.size ≤ g1 ∧ g1 < w1.heap.size) := ⟨by omega, r1.lt⟩
  have HB1 : Hid (Below w.heap.size w w1) := b1
  clear b1 s1 hg1
  go_wp2_with (refine wpList_alloc_blk rfl 40 rfl zbD (alloc_bf _) ?_)
  intro w2 r2 b2 s2
  obtain ⟨g2, hg2⟩ : ∃ g : Nat, g = w1.heap.size := ⟨_, rfl⟩
  rw [← hg2] at r2 ⊢
  have HG2 : Hid (w.heap.size ≤ g1 ∧ w.heap.size ≤ g2 ∧ g1 < g2 ∧ g2 < w2.heap.size) := ⟨HG1.out.1, by have := HB1.out.size; omega, by have := HG1.out.2; omega, r2.lt⟩
  replace r1 := r1.kept b2
  have HB2 : Hid (Below w.heap.size w w2) := stepB HB1.out b2
  clear b2 s2 hg2 HG1
  go_wp2_with fail
  refine (HMy.out _).mono ?_
  rintro e w3 ⟨rfl, rfl⟩
  by_cases hm : mayG msg part parts L = true
  case neg =>
    have hmf : mayG msg part parts L = false := by cases h : mayG msg part parts L <;> simp_all
    have HF : Hid (R = (B, [], 1)) := by have := HAd.out; rw [if_neg hm] at this; exact this
    rw [hmf]
    clear hm hmf HAd
    go_wp2_with (first
      | refine wpList_load_part rfl 40 _ rfl rfl [] (bfD B (.slice a n c)) [] r1 (by simp) rfl Try.underlying40 rfl (infoBf _ _) ?_
      | (refine wpList_store_part rfl 40 _ _ rfl rfl (bfD B (.slice a n c)) rfl [] zbD [] (bfD B (.slice a n c)) r2 rfl rfl rfl rfl (infoBf B (.slice a n c)) (bfD_one _ _ _ _) ?_; intro w6 r6 hw6))
    refine bodyPost_b3 rfl rfl rfl rfl rfl r6 Try.underlying40 rfl (infoBf _ _) ?_
    have hb6 : Below w.heap.size w w6 := hw6.below _ _ HG2.out.2.1 HB2.out
    rw [HF.out]
    exact ⟨_, rfl, HR.out.kept hb6, hb6⟩
  rw [hm]
  have HF : Hid (R = adF B p msg part parts body now) := HRR.out
  have HMb : Hid _ := mayG_of hm
  have HMg : Hid (mayG msg part parts body.length = true) := by show _ = _; rw [← HL.out]; exact hm
  obtain ⟨PN, rfl⟩ : ∃ k : Nat, parts = (k : Int) := ⟨parts.toNat, by have := HMb.out; omega⟩
  obtain ⟨PT, rfl⟩ : ∃ k : Nat, part = (k : Int) := ⟨part.toNat, by have := HMb.out; omega⟩
  have hPT : PT < PN := by have := HMb.out; omega
  have hPN : PN ≤ 64 := by have := HMb.out; omega
  have HEx : Hid (∀ W, Below w.heap.size w W → _) := fun W (hW : Below w.heap.size w W) => expire19_any B now HNow.out HS.out (by rw [← HN.out]; omega) _ (.slice a n c) rfl W (HR.out.kept hW)
  have HS1 : Hid (EnS (exL B.age now B.l)) := HS.out.filter _
  have HLn1 : Hid ((exL B.age now B.l).length ≤ 500) := by
    show _ ≤ _
    have := List.length_filter_le (yoE B.age now) B.l
    have h2 := HN.out
    unfold exL
    omega
  have HFs : Hid (R = if fdN p msg (exL B.age now B.l) < (exL B.age now B.l).length then (if ((exL B.age now B.l).getD (fdN p msg (exL B.age now B.l)) noE).parts.length ≠ PN ∨ (((exL B.age now B.l).getD (fdN p msg (exL B.age now B.l)) noE).parts.getD PT [] ≠ [] ∧ ((exL B.age now B.l).getD (fdN p msg (exL B.age now B.l)) noE).parts.getD PT [] ≠ body) then (⟨B.pm, B.am, B.age, exL B.age now B.l⟩, [], 41) else if ((exL B.age now B.l).getD (fdN p msg (exL B.age now B.l)) noE).parts.getD PT [] ≠ [] then (⟨B.pm, B.am, B.age, exL B.age now B.l⟩, [], 0) else adG ⟨B.pm, B.am, B.age, exL B.age now B.l⟩ p msg PT PN body now) else adG ⟨B.pm, B.am, B.age, exL B.age now B.l⟩ p msg PT PN body now) := by
    show _ = _
    rw [HF.out]
    unfold adF
    rw [if_pos HMg.out]
    simp only [Int.toNat_natCast]
  obtain ⟨l, hll⟩ : ∃ l, l = exL B.age now B.l := ⟨_, rfl⟩
  obtain ⟨pm, am, age, l0⟩ := B
  rw [← hll] at HEx HS1 HLn1 HFs
  clear hm HF HRR HMg HAd hll HMy HS
  go_wp2_with (refine wpList_load_part rfl 40 _ rfl rfl [] (bfD ⟨pm, am, age, l0⟩ (.slice a n c)) [] r1 (by simp) rfl Try.underlying40 rfl (infoBf _ _) ?_)
  refine (HEx.out _ HB2.out).mono ?_
  rintro e w4 ⟨v4, rfl, hE4, b4⟩
  obtain ⟨a4, c4, rfl, hlc4, hcm4⟩ := id hE4.len
  obtain ⟨m, hmm⟩ : ∃ m : Nat, m = l.length := ⟨_, rfl⟩
  rw [← hmm] at hE4 hlc4 HLn1 ⊢
  have HM : Hid (m = l.length) := hmm
  have r14 := r1.kept b4
  have r24 := r2.kept b4
  have HB4 : Hid (Below w.heap.size w w4) := stepB HB2.out b4
  have HE4 : Hid (EnR w4 (.slice a4 m c4) l) := hE4
  unfold maxLen at hcm4
  clear r1 r2 b4 hmm hE4 HB2 HEx
  go_wp2_with (first
    | (refine wpList_store_part rfl 40 _ _ rfl rfl (bfD ⟨pm, am, age, l⟩ (.slice a4 m c4)) rfl [] (bfD ⟨pm, am, age, l0⟩ (.slice a n c)) [] (bfD ⟨pm, am, age, l⟩ (.slice a4 m c4)) r14 (by simp) (by simp) rfl rfl (infoBf ⟨pm, am, age, l0⟩ (.slice a n c)) (bfD_one _ _ _ _) ?_; intro w5 r15 hw5)
    | refine wpList_load_part rfl 40 _ rfl rfl [] (bfD ⟨pm, am, age, l⟩ (.slice a4 m c4)) [] r15 (by simp) rfl Try.underlying40 rfl (infoBf _ _) ?_)
  have hE5 := HE4.out.past r14 (bfD_no _ _ _ _) (Chg.of_wrote hw5)
  have r25 := r24.wrote hw5 (by have := HG2.out; omega)
  have HB5 : Hid (Below w.heap.size w w5) := hw5.below _ _ HG2.out.1 HB4.out
  refine (find19_any ⟨pm, am, age, l⟩ p msg (by show l.length ≤ _; have := HLn1.out; have := HM.out; omega) _ (.slice a4 m c4) rfl _ hE5).mono ?_
  rintro e w6 ⟨rfl, b6⟩
  have r16 := r15.kept b6
  have r26 := r25.kept b6
  have HE6 : Hid (EnR w6 (.slice a4 m c4) l) := hE5.kept b6
  have HB6 : Hid (Below w.heap.size w w6) := stepB HB5.out b6
  clear b6 hE5 r15 r25 hw5 r14 r24 HE4 HB4 HB5
  obtain ⟨K, hK⟩ : ∃ K, K = fdN p msg l := ⟨_, rfl⟩
  have HK : Hid (K = fdN p msg l) := hK
  rw [← hK] at HFs
  have hfi : fdI p msg l = if K < m then (K : Int) else -1 := by rw [fdI, ← hK, ← HM.out]
  rw [← HM.out] at HFs
  clear hK
  obtain ⟨z, hz⟩ : ∃ z : Int, z = fdI p msg l := ⟨_, rfl⟩
  rw [← hz] at hfi ⊢
  have HFi : Hid (z = if K < m then (K : Int) else -1) := hfi
  clear hfi hz
  go_upto_if 43 with fail
  go_cut [] (fun wx => BlkAt g1 40 (bfD ⟨pm, am, age, l⟩ (.slice a4 m c4)) wx ∧ BlkAt g2 40 zbD wx ∧ EnR wx (.slice a4 m c4) l ∧ Below w.heap.size w wx ∧ Hid (R = adG ⟨pm, am, age, l⟩ p msg PT PN body now) ∧ Hid ((K < m ∧ (l.getD K noE).parts.length = PN ∧ (l.getD K noE).parts.getD PT [] = []) ∨ K = m))
  case first =>
    by_cases hKm : K < m
    focus
      rw [if_pos hKm] at HFs
      have hE7 := HE6.out
      obtain ⟨b, off, a', c', rfl, q0, q1, q2, q3, hpp⟩ := hE7.at (k := K) (by rw [← HM.out]; exact hKm)
      obtain ⟨y, hy⟩ : ∃ y, y = l.getD K noE := ⟨_, rfl⟩
      rw [← hy] at q0 q1 q2 q3 hpp
      obtain ⟨M, hM⟩ : ∃ M, M = y.parts.length := ⟨_, rfl⟩
      rw [← hM] at q3 hpp
      have hrg := range_four q0 q1 q2 q3
      have HRG : Hid (World.rangeAt w6 b (off + K * 4) (enD y (.slice a' M c'))) := hrg
      have HPP : Hid (RdC w6 (.slice a' M c') (y.parts.map sv)) := hpp
      have HY : Hid (y = l.getD K noE) := hy
      have HMM : Hid (M = y.parts.length) := hM
      have hKI : (K : Int) < (m : Int) := by omega
      have c63 : w6.cell? ⟨g1, 3, none⟩ = some (.slice (some ⟨b, off, none⟩) m c4) := r16.cell 3
      have hfi := HFi.out
      rw [if_pos hKm] at hfi
      clear hrg hpp hy hM hE7 q0 q1 q2 q3
      subst hfi
      go_wp2_with (first
        | refine wpList_load_mid rfl 71 _ rfl b (off + K * 4) rfl (enD y (.slice a' M c')) _ HRG.out Try.underlying71 rfl (infoEnt _ _) ?_
        | refine wpList_alloc_blk rfl 71 rfl zeD (alloc_en _) ?_)
      intro w7 r37 b7 s7
      obtain ⟨g3, hg3⟩ : ∃ g : Nat, g = w6.heap.size := ⟨_, rfl⟩
      rw [← hg3] at r37 ⊢
      have HKm : Hid (K < m) := hKm
      have HG3 : Hid (w6.heap.size ≤ g3) := by show _ ≤ _; omega
      have HB67 : Hid (Below w6.heap.size w6 w7) := b7
      clear b7 s7 hg3 HRG
      go_wp2_with (refine wpList_store_part rfl 71 _ _ rfl rfl (enD y (.slice a' M c')) rfl [] zeD [] (enD y (.slice a' M c')) r37 rfl rfl rfl rfl (infoEnt y (.slice a' M c')) (enD_one _ _ _ _) ?_)
      intro w8 r38 hw8
      have b68 : Below w6.heap.size w6 w8 := hw8.below _ _ HG3.out HB67.out
      have r18 := r16.kept b68
      have r28 := r26.kept b68
      have HE8 : Hid (EnR w8 (.slice (some ⟨b, off, none⟩) m c4) l) := HE6.out.kept b68
      have HB8 : Hid (Below w.heap.size w w8) := stepB HB6.out b68
      have HPP8 : Hid (RdC w8 (.slice a' M c') (y.parts.map sv)) := HPP.out.kept b68
      have c83 : w8.cell? ⟨g3, 3, none⟩ = some (.slice a' M c') := r38.cell 3
      rw [← HY.out, ← HMM.out] at HFs
      clear hw8 b68 HPP HB67 r37
      by_cases hMP : M = PN
      rotate_left
      · skip
        -- {dev
        have HF : Hid (R = (⟨pm, am, age, l⟩, [], 41)) := by have := HFs.out; rw [if_pos (.inl hMP)] at this; exact this
        have hz1 : ((M : Int) != (PN : Int)) = true := by simp; omega
        have hz2 : (M != PN) = true := by simp; omega
        clear HFs
        go_wp2_with fail
        go_quiet (fail)
        have bq := below_drewN19 (Below.refl w8.heap.size w8) nq
        have r19 := r18.kept bq
        have r29 := r28.kept bq
        have r39 := r38.kept bq
        have HB9 : Hid (Below w.heap.size w (w8.drewN nq)) := stepB HB8.out bq
        have HE9 : Hid (EnR (w8.drewN nq) (.slice (some ⟨b, off, none⟩) m c4) l) := HE8.out.kept bq
        have HPP9 : Hid (RdC (w8.drewN nq) (.slice a' M c') (y.parts.map sv)) := HPP8.out.kept bq
        clear r18 r28 r38 HB8 HE8 HPP8 bq
        generalize w8.drewN nq = w9 at r19 r29 r39 HB9 HE9 HPP9 ⊢
        go_wp2_with (first
          | refine wpList_load_part rfl 40 _ rfl rfl [] (bfD ⟨pm, am, age, l⟩ (.slice (some ⟨b, off, none⟩) m c4)) [] r19 (by simp) rfl Try.underlying40 rfl (infoBf _ _) ?_
          | (refine wpList_store_part rfl 40 _ _ rfl rfl (bfD ⟨pm, am, age, l⟩ (.slice (some ⟨b, off, none⟩) m c4)) rfl [] zbD [] (bfD ⟨pm, am, age, l⟩ (.slice (some ⟨b, off, none⟩) m c4)) r29 rfl rfl rfl rfl (infoBf ⟨pm, am, age, l⟩ (.slice (some ⟨b, off, none⟩) m c4)) (bfD_one _ _ _ _) ?_; intro wx rx hwx))
        refine bodyPost_b3 rfl rfl rfl rfl rfl rx Try.underlying40 rfl (infoBf _ _) ?_
        have hbx : Below w.heap.size w wx := hwx.below _ _ HG2.out.2.1 HB9.out
        rw [HF.out]
        exact ⟨_, rfl, HE9.out.past r29 zbD_no (Chg.of_wrote hwx), hbx⟩
        -- dev}
      have hMP2 := hMP.symm
      subst hMP2
      clear hMP
      obtain ⟨b2, off2, c2, e2, -, -, cx8⟩ := HPP8.out.cellAt (i := PT) (by rw [List.length_map, ← HMM.out]; exact hPT)
      simp only [Value.slice.injEq] at e2
      obtain ⟨rfl, -, rfl⟩ := e2
      obtain ⟨x, hx⟩ : ∃ x, x = y.parts.getD PT [] := ⟨_, rfl⟩
      replace cx8 : w8.cell? ⟨b2, off2 + PT, none⟩ = some (.string ⟨x.toArray⟩) := by rw [cx8, hx]; simp [sv, show PT < y.parts.length by rw [← HMM.out]; exact hPT]
      rw [← hx] at HFs
      have HX : Hid (x = y.parts.getD PT []) := hx
      have hPI : (PT : Int) < (PN : Int) := by omega
      clear hx
      by_cases hx0 : x = []
      rotate_left
      · skip
        -- {dev
        have hy1 : (x == ([] : List UInt8)) = false := by simpa using hx0
        have hy2 : (x != ([] : List UInt8)) = true := by simpa using hx0
        by_cases hxb : x = body
        case neg =>
          have HF : Hid (R = (⟨pm, am, age, l⟩, [], 41)) := by have := HFs.out; rw [if_pos (.inr ⟨hx0, hxb⟩)] at this; exact this
          have hy3 : (x == body) = false := by simpa using hxb
          have hy4 : (x != body) = true := by simpa using hxb
          clear HFs hx0 hxb
          go_wp2_with fail
          refine wpG_begin (by kernel_rfl) ?_
          refine gU_ 0 rfl ⟨_, by intro W hW; go_simp <;> with_reducible rfl, ?_⟩
          try simp only [Act.put, pA_, pB_, pC_]
          refine gU_ 1 rfl ⟨_, by intro W hW; have hcW := cell_keptB hW (show w8.drew.cell? _ = _ from c83); go_simp <;> with_reducible rfl, ?_⟩
          try simp only [Act.put, pA_, pB_, pC_]
          refine gU_ 2 rfl ⟨_, by intro W hW; go_simp <;> with_reducible rfl, ?_⟩
          try simp only [Act.put, pA_, pB_, pC_]
          refine gU_ 3 rfl ⟨_, by intro W hW; go_simp <;> with_reducible rfl, ?_⟩
          try simp only [Act.put, pA_, pB_, pC_]
          refine gU_ 4 rfl ⟨_, by intro W hW; go_simp <;> with_reducible rfl, ?_⟩
          try simp only [Act.put, pA_, pB_, pC_]
          refine gU_ 5 rfl ⟨_, by intro W hW; go_simp <;> with_reducible rfl, ?_⟩
          try simp only [Act.put, pA_, pB_, pC_]
          refine gU_ 6 rfl ⟨_, by intro W hW; go_simp <;> with_reducible rfl, ?_⟩
          try simp only [Act.put, pA_, pB_, pC_]
          refine gU_ 7 rfl ⟨_, by intro W hW; have hcW := cell_keptB hW (show w8.drew.cell? _ = _ from c83); go_simp <;> with_reducible rfl, ?_⟩
          try simp only [Act.put, pA_, pB_, pC_]
          refine gU_ 8 rfl ⟨_, by intro W hW; go_simp <;> with_reducible rfl, ?_⟩
          try simp only [Act.put, pA_, pB_, pC_]
          refine gU_ 9 rfl ⟨_, by intro W hW; go_simp <;> with_reducible rfl, ?_⟩
          try simp only [Act.put, pA_, pB_, pC_]
          refine gU_ 10 rfl ⟨_, by intro W hW; have hcW := cell_keptB hW (show w8.drew.cell? _ = _ from cx8); go_simp <;> with_reducible rfl, ?_⟩
          try simp only [Act.put, pA_, pB_, pC_]
          refine gU_ 11 rfl ⟨_, by intro W hW; go_simp <;> with_reducible rfl, ?_⟩
          try simp only [Act.put, pA_, pB_, pC_]
          refine gU_ 12 rfl ⟨_, by intro W hW; go_simp <;> with_reducible rfl, ?_⟩
          try simp only [Act.put, pA_, pB_, pC_]
          refine gU_ 13 rfl ⟨_, by intro W hW; go_simp <;> with_reducible rfl, ?_⟩
          try simp only [Act.put, pA_, pB_, pC_]
          refine gU_ 14 rfl ⟨_, by intro W hW; have hcW := cell_keptB hW (show w8.drew.cell? _ = _ from c83); go_simp <;> with_reducible rfl, ?_⟩
          try simp only [Act.put, pA_, pB_, pC_]
          refine gU_ 15 rfl ⟨_, by intro W hW; go_simp <;> with_reducible rfl, ?_⟩
          try simp only [Act.put, pA_, pB_, pC_]
          refine gU_ 16 rfl ⟨_, by intro W hW; go_simp <;> with_reducible rfl, ?_⟩
          try simp only [Act.put, pA_, pB_, pC_]
          refine gU_ 17 rfl ⟨_, by intro W hW; have hcW := cell_keptB hW (show w8.drew.cell? _ = _ from cx8); go_simp <;> with_reducible rfl, ?_⟩
          try simp only [Act.put, pA_, pB_, pC_]
          refine gU_ 18 rfl ⟨_, by intro W hW; go_simp <;> with_reducible rfl, ?_⟩
          try simp only [Act.put, pA_, pB_, pC_]
          refine gU_ 19 rfl ⟨_, by intro W hW; have hcv := conv19 ((HB.out.kept HB8.out.drew).kept hW); go_simp <;> with_reducible rfl, ?_⟩
          try simp only [Act.put, pA_, pB_, pC_]
          refine gU_ 20 rfl ⟨_, by intro W hW; go_simp <;> with_reducible rfl, ?_⟩
          try simp only [Act.put, pA_, pB_, pC_]
          refine gU_ 21 rfl ⟨_, by intro W hW; go_simp <;> with_reducible rfl, ?_⟩
          try simp only [Act.put, pA_, pB_, pC_]
          refine gU_ 22 rfl ⟨_, by intro W hW; go_simp <;> with_reducible rfl, ?_⟩
          try simp only [Act.put, pA_, pB_, pC_]
          refine wpG_done (by kernel_rfl) ?_
          have bq : Below w8.heap.size w8 w8.drew := (Below.refl _ _).drew
          have r19 := r18.kept bq
          have r29 := r28.kept bq
          have HB9 : Hid (Below w.heap.size w (w8.drew)) := stepB HB8.out bq
          have HE9 : Hid (EnR (w8.drew) (.slice (some ⟨b, off, none⟩) m c4) l) := HE8.out.kept bq
          have c93 := cell_keptB bq c83
          have cx9 := cell_keptB bq cx8
          clear r18 r28 r38 HB8 HE8 HPP8 bq c83 cx8
          generalize w8.drew = w9 at r19 r29 HB9 HE9 c93 cx9 ⊢
          go_wp2_with (first
            | refine wpList_load_part rfl 40 _ rfl rfl [] (bfD ⟨pm, am, age, l⟩ (.slice (some ⟨b, off, none⟩) m c4)) [] r19 (by simp) rfl Try.underlying40 rfl (infoBf _ _) ?_
            | (refine wpList_store_part rfl 40 _ _ rfl rfl (bfD ⟨pm, am, age, l⟩ (.slice (some ⟨b, off, none⟩) m c4)) rfl [] zbD [] (bfD ⟨pm, am, age, l⟩ (.slice (some ⟨b, off, none⟩) m c4)) r29 rfl rfl rfl rfl (infoBf ⟨pm, am, age, l⟩ (.slice (some ⟨b, off, none⟩) m c4)) (bfD_one _ _ _ _) ?_; intro wx rx hwx))
          refine bodyPost_b3 rfl rfl rfl rfl rfl rx Try.underlying40 rfl (infoBf _ _) ?_
          have hbx : Below w.heap.size w wx := hwx.below _ _ HG2.out.2.1 HB9.out
          rw [HF.out]
          exact ⟨_, rfl, HE9.out.past r29 zbD_no (Chg.of_wrote hwx), hbx⟩
        case pos =>
          have HF : Hid (R = (⟨pm, am, age, l⟩, [], 0)) := by have := HFs.out; rw [if_neg (fun h => h.elim (fun h => h rfl) (fun h => h.2 hxb)), if_pos hx0] at this; exact this
          have hy3 : (x == body) = true := by simpa using hxb
          have hy4 : (x != body) = false := by simp [hxb]
          clear HFs hx0 hxb
          go_wp2_with fail
          refine wpG_begin (by kernel_rfl) ?_
          refine gU_ 0 rfl ⟨_, by intro W hW; go_simp <;> with_reducible rfl, ?_⟩
          try simp only [Act.put, pA_, pB_, pC_]
          refine gU_ 1 rfl ⟨_, by intro W hW; have hcW := cell_keptB hW (show w8.drew.cell? _ = _ from c83); go_simp <;> with_reducible rfl, ?_⟩
          try simp only [Act.put, pA_, pB_, pC_]
          refine gU_ 2 rfl ⟨_, by intro W hW; go_simp <;> with_reducible rfl, ?_⟩
          try simp only [Act.put, pA_, pB_, pC_]
          refine gU_ 3 rfl ⟨_, by intro W hW; go_simp <;> with_reducible rfl, ?_⟩
          try simp only [Act.put, pA_, pB_, pC_]
          refine gU_ 4 rfl ⟨_, by intro W hW; go_simp <;> with_reducible rfl, ?_⟩
          try simp only [Act.put, pA_, pB_, pC_]
          refine gU_ 5 rfl ⟨_, by intro W hW; go_simp <;> with_reducible rfl, ?_⟩
          try simp only [Act.put, pA_, pB_, pC_]
          refine gU_ 6 rfl ⟨_, by intro W hW; go_simp <;> with_reducible rfl, ?_⟩
          try simp only [Act.put, pA_, pB_, pC_]
          refine gU_ 7 rfl ⟨_, by intro W hW; have hcW := cell_keptB hW (show w8.drew.cell? _ = _ from c83); go_simp <;> with_reducible rfl, ?_⟩
          try simp only [Act.put, pA_, pB_, pC_]
          refine gU_ 8 rfl ⟨_, by intro W hW; go_simp <;> with_reducible rfl, ?_⟩
          try simp only [Act.put, pA_, pB_, pC_]
          refine gU_ 9 rfl ⟨_, by intro W hW; go_simp <;> with_reducible rfl, ?_⟩
          try simp only [Act.put, pA_, pB_, pC_]
          refine gU_ 10 rfl ⟨_, by intro W hW; have hcW := cell_keptB hW (show w8.drew.cell? _ = _ from cx8); go_simp <;> with_reducible rfl, ?_⟩
          try simp only [Act.put, pA_, pB_, pC_]
          refine gU_ 11 rfl ⟨_, by intro W hW; go_simp <;> with_reducible rfl, ?_⟩
          try simp only [Act.put, pA_, pB_, pC_]
          refine gU_ 12 rfl ⟨_, by intro W hW; go_simp <;> with_reducible rfl, ?_⟩
          try simp only [Act.put, pA_, pB_, pC_]
          refine gU_ 13 rfl ⟨_, by intro W hW; go_simp <;> with_reducible rfl, ?_⟩
          try simp only [Act.put, pA_, pB_, pC_]
          refine gU_ 14 rfl ⟨_, by intro W hW; have hcW := cell_keptB hW (show w8.drew.cell? _ = _ from c83); go_simp <;> with_reducible rfl, ?_⟩
          try simp only [Act.put, pA_, pB_, pC_]
          refine gU_ 15 rfl ⟨_, by intro W hW; go_simp <;> with_reducible rfl, ?_⟩
          try simp only [Act.put, pA_, pB_, pC_]
          refine gU_ 16 rfl ⟨_, by intro W hW; go_simp <;> with_reducible rfl, ?_⟩
          try simp only [Act.put, pA_, pB_, pC_]
          refine gU_ 17 rfl ⟨_, by intro W hW; have hcW := cell_keptB hW (show w8.drew.cell? _ = _ from cx8); go_simp <;> with_reducible rfl, ?_⟩
          try simp only [Act.put, pA_, pB_, pC_]
          refine gU_ 18 rfl ⟨_, by intro W hW; go_simp <;> with_reducible rfl, ?_⟩
          try simp only [Act.put, pA_, pB_, pC_]
          refine gU_ 19 rfl ⟨_, by intro W hW; have hcv := conv19 ((HB.out.kept HB8.out.drew).kept hW); go_simp <;> with_reducible rfl, ?_⟩
          try simp only [Act.put, pA_, pB_, pC_]
          refine gU_ 20 rfl ⟨_, by intro W hW; go_simp <;> with_reducible rfl, ?_⟩
          try simp only [Act.put, pA_, pB_, pC_]
          refine gU_ 21 rfl ⟨_, by intro W hW; go_simp <;> with_reducible rfl, ?_⟩
          try simp only [Act.put, pA_, pB_, pC_]
          refine gU_ 22 rfl ⟨_, by intro W hW; go_simp <;> with_reducible rfl, ?_⟩
          try simp only [Act.put, pA_, pB_, pC_]
          refine wpG_done (by kernel_rfl) ?_
          have bq : Below w8.heap.size w8 w8.drew := (Below.refl _ _).drew
          have r19 := r18.kept bq
          have r29 := r28.kept bq
          have HB9 : Hid (Below w.heap.size w (w8.drew)) := stepB HB8.out bq
          have HE9 : Hid (EnR (w8.drew) (.slice (some ⟨b, off, none⟩) m c4) l) := HE8.out.kept bq
          have c93 := cell_keptB bq c83
          have cx9 := cell_keptB bq cx8
          clear r18 r28 r38 HB8 HE8 HPP8 bq c83 cx8
          generalize w8.drew = w9 at r19 r29 HB9 HE9 c93 cx9 ⊢
          go_wp2_with (first
            | refine wpList_load_part rfl 40 _ rfl rfl [] (bfD ⟨pm, am, age, l⟩ (.slice (some ⟨b, off, none⟩) m c4)) [] r19 (by simp) rfl Try.underlying40 rfl (infoBf _ _) ?_
            | (refine wpList_store_part rfl 40 _ _ rfl rfl (bfD ⟨pm, am, age, l⟩ (.slice (some ⟨b, off, none⟩) m c4)) rfl [] zbD [] (bfD ⟨pm, am, age, l⟩ (.slice (some ⟨b, off, none⟩) m c4)) r29 rfl rfl rfl rfl (infoBf ⟨pm, am, age, l⟩ (.slice (some ⟨b, off, none⟩) m c4)) (bfD_one _ _ _ _) ?_; intro wx rx hwx))
          refine bodyPost_b3 rfl rfl rfl rfl rfl rx Try.underlying40 rfl (infoBf _ _) ?_
          have hbx : Below w.heap.size w wx := hwx.below _ _ HG2.out.2.1 HB9.out
          rw [HF.out]
          exact ⟨_, rfl, HE9.out.past r29 zbD_no (Chg.of_wrote hwx), hbx⟩
        -- dev}
      have hy1 : (x == ([] : List UInt8)) = true := by simpa using hx0
      have hy2 : (x != ([] : List UInt8)) = false := by simp [hx0]
      have HF : Hid (R = adG ⟨pm, am, age, l⟩ p msg PT PN body now) := by have := HFs.out; rw [if_neg (fun h => h.elim (fun h => h rfl) (fun h => h.1 hx0)), if_neg (fun h => h hx0)] at this; exact this
      have HKW : Hid ((K < m ∧ (l.getD K noE).parts.length = PN ∧ (l.getD K noE).parts.getD PT [] = []) ∨ K = m) := .inl ⟨hKm, by rw [← HY.out, ← HMM.out], by rw [← HY.out, ← HX.out, hx0]⟩
      clear HFs hx0 HX HY HMM hPI hKI
      go_wp2_with fail
      go_quiet (fail)
      have bq := below_drewN19 (Below.refl w8.heap.size w8) nq
      have r16 := r18.kept bq
      have r26 := r28.kept bq
      have HB6 : Hid (Below w.heap.size w (w8.drewN nq)) := stepB HB8.out bq
      have HE6 : Hid (EnR (w8.drewN nq) (.slice (some ⟨b, off, none⟩) m c4) l) := HE8.out.kept bq
      have c93 := cell_keptB bq c83
      have cx9 := cell_keptB bq cx8
      clear r18 r28 r38 HB8 HE8 HPP8 bq c83 cx8 hKm HG3 HKm
      go_wp2
      go_meet
      exact ⟨r16, r26, HE6.out, HB6.out, HF, HKW⟩
    rotate_left
    focus
      have HF : Hid (R = adG ⟨pm, am, age, l⟩ p msg PT PN body now) := by have := HFs.out; rw [if_neg hKm] at this; exact this
      have hKe : K = m := by have h := fdN_le p msg l; have := HK.out; have := HM.out; omega
      have HKW : Hid ((K < m ∧ (l.getD K noE).parts.length = PN ∧ (l.getD K noE).parts.getD PT [] = []) ∨ K = m) := .inr hKe
      have hfi := HFi.out
      rw [if_neg hKm] at hfi
      subst hfi
      clear HFs hKm hKe
      go_wp2
      go_meet
      exact ⟨r16, r26, HE6.out, HB6.out, HF, HKW⟩
  case rest =>
  rename World => w6
  obtain ⟨r16, r26, hE6, hB6, HF, HKW⟩ := hcut
  have HE6 : Hid (EnR w6 (.slice a4 m c4) l) := hE6
  have HB6 : Hid (Below w.heap.size w w6) := hB6
  clear hE6 hB6 HFs HFi
  go_wp2_with (first
    | refine wpList_load_part rfl 40 _ rfl rfl [] (bfD ⟨pm, am, age, l⟩ (.slice a4 m c4)) [] r16 (by simp) rfl Try.underlying40 rfl (infoBf _ _) ?_
    | refine wpList_alloc_blk rfl 40 rfl zbD (alloc_bf _) ?_)
  intro wu ru4 bu su
  obtain ⟨g4, hg4⟩ : ∃ g : Nat, g = w6.heap.size := ⟨_, rfl⟩
  rw [← hg4] at ru4 ⊢
  have HGd : Hid (g1 ≠ g2 ∧ g1 ≠ g4 ∧ g2 ≠ g4 ∧ w.heap.size ≤ g1 ∧ w.heap.size ≤ g2 ∧ w.heap.size ≤ g4) := ⟨by have := HG2.out; omega, by have := r16.lt; omega, by have := r26.lt; omega, HG2.out.1, HG2.out.2.1, by have := HB6.out.size; omega⟩
  have HG4 : Hid (w6.heap.size ≤ g4) := by show _ ≤ _; omega
  have HBu : Hid (Below w6.heap.size w6 wu) := bu
  clear bu su hg4
  go_wp2_with (refine wpList_store_part rfl 40 _ _ rfl rfl (bfD ⟨pm, am, age, l⟩ (.slice a4 m c4)) rfl [] zbD [] (bfD ⟨pm, am, age, l⟩ (.slice a4 m c4)) ru4 rfl rfl rfl rfl (infoBf ⟨pm, am, age, l⟩ (.slice a4 m c4)) (bfD_one _ _ _ _) ?_)
  intro wv rv4 hwv
  have bv : Below w6.heap.size w6 wv := hwv.below _ _ HG4.out HBu.out
  have HLp : Hid (Lp g1 g2 g4 ⟨pm, am, age, l⟩ (.slice a4 m c4) p msg L w wv l a4 m c4) := ⟨r16.kept bv, HE6.out.kept bv, HM.out, HS1.out, (by have := HLn1.out; have := HM.out; omega), r26.kept bv, rv4, HE6.out.kept bv, stepB HB6.out bv, _, Nat.le_refl _, rfl⟩
  clear r16 r26 ru4 rv4 hwv bv HBu HG4 HE6 HB6
  go_wp2
  go_loopw [21] (fun iv wx => ∃ (lx : List Ent) (ax : Option Addr) (kx cx : Nat), Hid (Lp g1 g2 g4 ⟨pm, am, age, l⟩ (.slice a4 m c4) p msg L w wx lx ax kx cx)) (fun iv wx => lenAt g1 wx)
  case atStart => exact ⟨l, a4, m, c4, HLp⟩
  case round =>
    obtain ⟨lx, ax, kx, cx, HQ⟩ := hrel
    have HB0 : Hid (BlkAt g1 40 (bfD ⟨pm, am, age, lx⟩ (.slice ax kx cx)) wr) := HQ.out.r1
    have d0 : wr.cell? ⟨g1, 0, none⟩ = some (.int .i64 pm) := HB0.out.cell 0
    obtain ⟨H, hH⟩ : ∃ H, H = hdB lx p := ⟨_, rfl⟩
    have HH : Hid (H = hdB lx p) := hH
    have hHb := hdB_le HQ.out.small p
    rw [← hH] at hHb
    have hle := HQ.out.le
    have hL10 : L ≤ 1024 := HMb.out.2.2.2.2.2.2.2
    obtain ⟨S, hS⟩ : ∃ S : Nat, S = H + L := ⟨_, rfl⟩
    have e1 : IntKind.i64.wrap ((H : Int) + (L : Int)) = (S : Int) := by rw [IntWalk.i64_in _ (by omega)]; omega
    have HSS : Hid (S = H + L) := hS
    have HHe : Hid (∀ W, Below wr.heap.size wr W → _) := fun W (hW : Below wr.heap.size wr W) => held19_any ⟨pm, am, age, lx⟩ p (by show lx.length ≤ _; omega) HQ.out.small _ (.slice ax kx cx) rfl W (HQ.out.en.kept hW)
    rw [show hdB (Bf.l ⟨pm, am, age, lx⟩) p = H from hH.symm] at HHe
    clear hH hHb hS hle hL10
    go_wp2_with fail
    refine wpG_begin (by kernel_rfl) ?_
    refine gU_ 0 rfl ⟨_, by intro W hW; refine Eq.trans (exec_load_part 40 _ (by rfl) (by rfl) [] (bfD ⟨pm, am, age, lx⟩ (.slice ax kx cx)) [] HB0.out.drew hW (by simp) rfl Try.underlying40 rfl (infoBf _ _)) ?_; with_reducible rfl, ?_⟩
    try simp only [Act.put, pA_, pB_, pC_]
    refine gU_ 1 rfl ⟨_, by intro W hW; go_simp <;> with_reducible rfl, ?_⟩
    try simp only [Act.put, pA_, pB_, pC_]
    refine gU_ 3 rfl ⟨_, by intro W hW; go_simp <;> with_reducible rfl, ?_⟩
    try simp only [Act.put, pA_, pB_, pC_]
    refine gU_ 4 rfl ⟨_, by intro W hW; go_simp <;> with_reducible rfl, ?_⟩
    try simp only [Act.put, pA_, pB_, pC_]
    refine gU_ 6 rfl ⟨_, by intro W hW; go_simp <;> with_reducible rfl, ?_⟩
    try simp only [Act.put, pA_, pB_, pC_]
    refine gU_ 7 rfl ⟨_, by intro W hW; have hcW := cell_keptB hW (show wr.drew.cell? _ = _ from d0); go_simp <;> with_reducible rfl, ?_⟩
    try simp only [Act.put, pA_, pB_, pC_]
    refine gD_ 2 fun K hK => ?_
    go_simp
    refine (HHe.out _ (Below.refl _ _).drew).mono ?_
    rintro e w3 ⟨rfl, b3⟩
    refine hK.out _ _ b3 ?_
    clear hK K
    try simp only [Act.put, pA_, pB_, pC_]
    refine gU_ 5 rfl ⟨_, by intro W hW; go_simp <;> with_reducible rfl, ?_⟩
    try simp only [Act.put, pA_, pB_, pC_]
    refine gU_ 8 rfl ⟨_, by intro W hW; go_simp <;> with_reducible rfl, ?_⟩
    try simp only [Act.put, pA_, pB_, pC_]
    refine wpG_done (by kernel_rfl) ?_
    have b33 : Below wr.heap.size wr w3 := stepB (Below.refl _ _).drew b3
    have HQ3 : Hid (Lp g1 g2 g4 ⟨pm, am, age, l⟩ (.slice a4 m c4) p msg L w w3 lx ax kx cx) := by
      obtain ⟨q1, q2, q3, q4, q5, q6, q7, q8, q9, q10⟩ := HQ.out
      exact ⟨q1.kept b33, q2.kept b33, q3, q4, q5, q6.kept b33, q7.kept b33, q8.kept b33, stepB q9 b33, q10⟩
    have HLa : Hid (lenAt g1 wr = lx.length) := by show _ = _; rw [lenAt_of HB0.out, HQ.out.len]
    clear b3 b33 d0 HB0 HQ HHe
    by_cases hlt : pm < (S : Int)
    · -- {dev
      have hd : decide (pm < (S : Int)) = true := decide_eq_true hlt
      have HNo : Hid (pm < ((hdB lx p : Nat) : Int) + (L : Int)) := by show _ < _; rw [← HH.out]; have := HSS.out; omega
      have HB3 : Hid (BlkAt g1 40 (bfD ⟨pm, am, age, lx⟩ (.slice ax kx cx)) w3) := HQ3.out.r1
      go_wp2_with (refine wpList_load_part rfl 40 _ rfl rfl [] (bfD ⟨pm, am, age, lx⟩ (.slice ax kx cx)) [] HB3.out (by simp) rfl Try.underlying40 rfl (infoBf _ _) ?_)
      refine (oldest19_any ⟨pm, am, age, lx⟩ p msg (by show lx.length ≤ _; have := HQ3.out.le; omega) HQ3.out.small _ (.slice ax kx cx) rfl _ HQ3.out.en).mono ?_
      rintro e w5 ⟨rfl, b5⟩
      have HQ5 : Hid (Lp g1 g2 g4 ⟨pm, am, age, l⟩ (.slice a4 m c4) p msg L w w5 lx ax kx cx) := by
        obtain ⟨q1, q2, q3, q4, q5, q6, q7, q8, q9, q10⟩ := HQ3.out
        exact ⟨q1.kept b5, q2.kept b5, q3, q4, q5, q6.kept b5, q7.kept b5, q8.kept b5, stepB q9 b5, q10⟩
      clear b5 HQ3 HB3
      obtain ⟨o, ho⟩ : ∃ o, o = odN p msg lx := ⟨_, rfl⟩
      have HO : Hid (o = odN p msg lx) := ho
      rw [show odN p msg (Bf.l ⟨pm, am, age, lx⟩) = o from ho.symm]
      clear ho
      cases o with
      | none =>
        have e0 : oI none = -1 := rfl
        have HAG : Hid (adG ⟨pm, am, age, l⟩ p msg PT PN body now = (⟨pm, am, age, l⟩, [], 42)) := by
          show _ = _
          obtain ⟨f, -, hf⟩ := HQ5.out.ev
          have h1 := ev_none (n := L) (k := f) HNo.out HO.out.symm
          rw [hf] at h1
          unfold adG
          rw [← HL.out]
          rw [show evL (Bf.pm ⟨pm, am, age, l⟩) p msg L (List.length (Bf.l ⟨pm, am, age, l⟩)) (Bf.l ⟨pm, am, age, l⟩) = none from h1]
        have rr4 := HQ5.out.r4
        have rr2 := HQ5.out.r2
        have HBx : Hid _ := HQ5.out.below
        have HEx : Hid _ := HQ5.out.old
        go_wp2_with (first
          | refine wpList_load_part rfl 40 _ rfl rfl [] (bfD ⟨pm, am, age, l⟩ (.slice a4 m c4)) [] rr4 (by simp) rfl Try.underlying40 rfl (infoBf _ _) ?_
          | (refine wpList_store_part rfl 40 _ _ rfl rfl (bfD ⟨pm, am, age, l⟩ (.slice a4 m c4)) rfl [] zbD [] (bfD ⟨pm, am, age, l⟩ (.slice a4 m c4)) rr2 rfl rfl rfl rfl (infoBf ⟨pm, am, age, l⟩ (.slice a4 m c4)) (bfD_one _ _ _ _) ?_; intro wx rx hwx))
        refine bodyPost_b3 rfl rfl rfl rfl rfl rx Try.underlying40 rfl (infoBf _ _) ?_
        have hbx : Below w.heap.size w wx := hwx.below _ _ HGd.out.2.2.2.2.1 HBx.out
        rw [HF.out, HAG.out]
        exact ⟨_, rfl, HEx.out.past rr2 zbD_no (Chg.of_wrote hwx), hbx⟩
      | some i =>
        have hil := (odS_lt HO.out.symm).1
        have e0 : oI (some i) = (i : Int) := rfl
        have e3 : decide ((i : Int) < 0) = false := decide_eq_false (by omega)
        rw [e0]
        have HB5 : Hid (BlkAt g1 40 (bfD ⟨pm, am, age, lx⟩ (.slice ax kx cx)) w5) := HQ5.out.r1
        have HEv : Hid (∃ f, (lx.eraseIdx i).length ≤ f ∧ evL pm p msg L f (lx.eraseIdx i) = evL pm p msg L l.length l) := by
          obtain ⟨f, hf, he⟩ := HQ5.out.ev
          obtain ⟨k', h1, h2⟩ := ev_some (n := L) HNo.out HO.out.symm hf
          exact ⟨k', h1, h2.symm.trans he⟩
        have HIl : Hid (i < lx.length) := hil
        clear hil
        go_wp2_with (refine wpList_load_part rfl 40 _ rfl rfl [] (bfD ⟨pm, am, age, lx⟩ (.slice ax kx cx)) [] HB5.out (by simp) rfl Try.underlying40 rfl (infoBf _ _) ?_)
        refine (without19_any ⟨pm, am, age, lx⟩ i HIl.out (by show lx.length ≤ _; have := HQ5.out.le; omega) _ (.slice ax kx cx) rfl _ HQ5.out.en).mono ?_
        rintro e w7 ⟨v7, rfl, hE7, b7⟩
        obtain ⟨a7, c7, rfl, -, -⟩ := id hE7.len
        obtain ⟨k7, hk7⟩ : ∃ k, k = (lx.eraseIdx i).length := ⟨_, rfl⟩
        have hk7' : (List.eraseIdx (Bf.l ⟨pm, am, age, lx⟩) i).length = k7 := hk7.symm
        rw [hk7'] at hE7 ⊢
        have HK7 : Hid (k7 = (lx.eraseIdx i).length) := hk7
        have HE7 : Hid (EnR w7 (.slice a7 k7 c7) (lx.eraseIdx i)) := hE7
        have hq1 := HB5.out.kept b7
        have HB7 : Hid (Below w5.heap.size w5 w7) := b7
        clear hk7 hk7' hE7 b7
        go_wp2_with (refine wpList_store_part rfl 40 _ _ rfl rfl (bfD ⟨pm, am, age, lx.eraseIdx i⟩ (.slice a7 k7 c7)) rfl [] (bfD ⟨pm, am, age, lx⟩ (.slice ax kx cx)) [] (bfD ⟨pm, am, age, lx.eraseIdx i⟩ (.slice a7 k7 c7)) hq1 (by simp) (by simp) rfl rfl (infoBf ⟨pm, am, age, lx⟩ (.slice ax kx cx)) (bfD_one _ _ _ _) ?_)
        intro w8 rq1 hw8
        have HQ8 : Hid (Lp g1 g2 g4 ⟨pm, am, age, l⟩ (.slice a4 m c4) p msg L w w8 (lx.eraseIdx i) a7 k7 c7) := by
          obtain ⟨q1, q2, q3, q4, q5, q6, q7, q8, q9, q10⟩ := HQ5.out
          have hc := Chg.of_wrote hw8
          exact ⟨rq1, HE7.out.past hq1 (bfD_no _ _ _ _) hc, HK7.out, q4.erase i, by rw [List.length_eraseIdx, if_pos HIl.out]; omega, (q6.kept HB7.out).wrote hw8 (by have := HGd.out; omega), (q7.kept HB7.out).wrote hw8 (by have := HGd.out; omega), (q8.kept HB7.out).past hq1 (bfD_no _ _ _ _) hc, hw8.below _ _ HGd.out.2.2.2.1 (stepB q9 HB7.out), HEv.out⟩
        have HLb : Hid (lenAt g1 w8 = lx.length - 1) := by show _ = _; rw [lenAt_of rq1, HK7.out, List.length_eraseIdx, if_pos HIl.out]
        clear rq1 hw8 hq1 HB7 HE7 HB5 HQ5
        go_wp2
        go_roundw
        case rel => exact ⟨lx.eraseIdx i, a7, k7, c7, HQ8⟩
        case measure => rw [HLa.out, HLb.out]; have := HIl.out; omega
      -- dev}
    · have hd : decide (pm < (S : Int)) = false := decide_eq_false hlt
      have hge : (S : Int) ≤ pm := by omega
      have HEv : Hid (evL pm p msg L l.length l = some lx) := by
        show _ = _
        obtain ⟨f, -, hf⟩ := HQ3.out.ev
        have h1 := ev_yes (n := L) (k := f) (l := lx) (p := p) (m := msg) (lim := pm) (by rw [← HH.out]; have := HSS.out; omega)
        rw [hf] at h1
        exact h1
      have HB3 : Hid (BlkAt g1 40 (bfD ⟨pm, am, age, lx⟩ (.slice ax kx cx)) w3) := HQ3.out.r1
      have d1 : w3.cell? ⟨g1, 1, none⟩ = some (.int .i64 am) := HB3.out.cell 1
      obtain ⟨T, hT⟩ : ∃ T, T = ttB lx := ⟨_, rfl⟩
      have HT : Hid (T = ttB lx) := hT
      have hTb := ttB_le HQ3.out.small
      rw [← hT] at hTb
      have hle := HQ3.out.le
      have hL10 : L ≤ 1024 := HMb.out.2.2.2.2.2.2.2
      obtain ⟨S2, hS2⟩ : ∃ S : Nat, S = T + L := ⟨_, rfl⟩
      have e12 : IntKind.i64.wrap ((T : Int) + (L : Int)) = (S2 : Int) := by rw [IntWalk.i64_in _ (by omega)]; omega
      have HS2 : Hid (S2 = T + L) := hS2
      have HTo : Hid (∀ W, Below w3.heap.size w3 W → _) := fun W (hW : Below w3.heap.size w3 W) => total19_any ⟨pm, am, age, lx⟩ (by show lx.length ≤ _; omega) HQ3.out.small _ (.slice ax kx cx) rfl W (HQ3.out.en.kept hW)
      rw [show ttB (Bf.l ⟨pm, am, age, lx⟩) = T from hT.symm] at HTo
      clear hT hTb hS2 hle hL10 HLa hlt
      go_wp2_with fail
      refine wpG_begin (by kernel_rfl) ?_
      refine gU_ 0 rfl ⟨_, by intro W hW; refine Eq.trans (exec_load_part 40 _ (by rfl) (by rfl) [] (bfD ⟨pm, am, age, lx⟩ (.slice ax kx cx)) [] HB3.out.drew hW (by simp) rfl Try.underlying40 rfl (infoBf _ _)) ?_; with_reducible rfl, ?_⟩
      try simp only [Act.put, pA_, pB_, pC_]
      refine gU_ 2 rfl ⟨_, by intro W hW; go_simp <;> with_reducible rfl, ?_⟩
      try simp only [Act.put, pA_, pB_, pC_]
      refine gU_ 3 rfl ⟨_, by intro W hW; go_simp <;> with_reducible rfl, ?_⟩
      try simp only [Act.put, pA_, pB_, pC_]
      refine gU_ 5 rfl ⟨_, by intro W hW; go_simp <;> with_reducible rfl, ?_⟩
      try simp only [Act.put, pA_, pB_, pC_]
      refine gU_ 6 rfl ⟨_, by intro W hW; have hcW := cell_keptB hW (show w3.drew.cell? _ = _ from d1); go_simp <;> with_reducible rfl, ?_⟩
      try simp only [Act.put, pA_, pB_, pC_]
      refine gD_ 1 fun K hK => ?_
      go_simp
      refine (HTo.out _ (Below.refl _ _).drew).mono ?_
      rintro e w5 ⟨rfl, b5⟩
      refine hK.out _ _ b5 ?_
      clear hK K
      try simp only [Act.put, pA_, pB_, pC_]
      refine gU_ 4 rfl ⟨_, by intro W hW; go_simp <;> with_reducible rfl, ?_⟩
      try simp only [Act.put, pA_, pB_, pC_]
      refine gU_ 7 rfl ⟨_, by intro W hW; go_simp <;> with_reducible rfl, ?_⟩
      try simp only [Act.put, pA_, pB_, pC_]
      refine wpG_done (by kernel_rfl) ?_
      have b35 : Below w3.heap.size w3 w5 := stepB (Below.refl _ _).drew b5
      have HQ5 : Hid (Lp g1 g2 g4 ⟨pm, am, age, l⟩ (.slice a4 m c4) p msg L w w5 lx ax kx cx) := by
        obtain ⟨q1, q2, q3, q4, q5, q6, q7, q8, q9, q10⟩ := HQ3.out
        exact ⟨q1.kept b35, q2.kept b35, q3, q4, q5, q6.kept b35, q7.kept b35, q8.kept b35, stepB q9 b35, q10⟩
      clear b5 b35 d1 HB3 HQ3 HTo
      by_cases hlt2 : am < (S2 : Int)
      · -- {dev
        have hd2 : decide (am < (S2 : Int)) = true := decide_eq_true hlt2
        have HAG : Hid (adG ⟨pm, am, age, l⟩ p msg PT PN body now = (⟨pm, am, age, l⟩, [], 42)) := by
          show _ = _
          unfold adG
          rw [← HL.out]
          rw [show evL (Bf.pm ⟨pm, am, age, l⟩) p msg L (List.length (Bf.l ⟨pm, am, age, l⟩)) (Bf.l ⟨pm, am, age, l⟩) = some lx from HEv.out]
          simp only
          rw [if_pos (by rw [← HT.out]; have := HS2.out; omega)]
        have rr4 := HQ5.out.r4
        have rr2 := HQ5.out.r2
        have HBx : Hid _ := HQ5.out.below
        have HEx : Hid _ := HQ5.out.old
        go_wp2_with (first
          | refine wpList_load_part rfl 40 _ rfl rfl [] (bfD ⟨pm, am, age, l⟩ (.slice a4 m c4)) [] rr4 (by simp) rfl Try.underlying40 rfl (infoBf _ _) ?_
          | (refine wpList_store_part rfl 40 _ _ rfl rfl (bfD ⟨pm, am, age, l⟩ (.slice a4 m c4)) rfl [] zbD [] (bfD ⟨pm, am, age, l⟩ (.slice a4 m c4)) rr2 rfl rfl rfl rfl (infoBf ⟨pm, am, age, l⟩ (.slice a4 m c4)) (bfD_one _ _ _ _) ?_; intro wx rx hwx))
        refine bodyPost_b3 rfl rfl rfl rfl rfl rx Try.underlying40 rfl (infoBf _ _) ?_
        have hbx : Below w.heap.size w wx := hwx.below _ _ HGd.out.2.2.2.2.1 HBx.out
        rw [HF.out, HAG.out]
        exact ⟨_, rfl, HEx.out.past rr2 zbD_no (Chg.of_wrote hwx), hbx⟩
        -- dev}
      · have hd2 : decide (am < (S2 : Int)) = false := decide_eq_false hlt2
        have hge2 : (S2 : Int) ≤ am := by omega
        have HAG : Hid (adG ⟨pm, am, age, l⟩ p msg PT PN body now = (if fuB (inE ((if fdN p msg lx < lx.length then lx else lx ++ [⟨p, msg, now, List.replicate PN []⟩]).getD (fdN p msg lx) noE) PT body).parts = true then (⟨pm, am, age, ((if fdN p msg lx < lx.length then lx else lx ++ [⟨p, msg, now, List.replicate PN []⟩]).set (fdN p msg lx) (inE ((if fdN p msg lx < lx.length then lx else lx ++ [⟨p, msg, now, List.replicate PN []⟩]).getD (fdN p msg lx) noE) PT body)).eraseIdx (fdN p msg lx)⟩, (inE ((if fdN p msg lx < lx.length then lx else lx ++ [⟨p, msg, now, List.replicate PN []⟩]).getD (fdN p msg lx) noE) PT body).parts.flatten, 0) else (⟨pm, am, age, (if fdN p msg lx < lx.length then lx else lx ++ [⟨p, msg, now, List.replicate PN []⟩]).set (fdN p msg lx) (inE ((if fdN p msg lx < lx.length then lx else lx ++ [⟨p, msg, now, List.replicate PN []⟩]).getD (fdN p msg lx) noE) PT body)⟩, [], 0))) := by
          show _ = _
          unfold adG
          rw [← HL.out]
          rw [show evL (Bf.pm ⟨pm, am, age, l⟩) p msg L (List.length (Bf.l ⟨pm, am, age, l⟩)) (Bf.l ⟨pm, am, age, l⟩) = some lx from HEv.out]
          simp only
          rw [if_neg (by rw [← HT.out]; have := HS2.out; omega)]
        have HFE : Hid _ := find_ev HEv.out
        obtain ⟨K2, hK2⟩ : ∃ K, K = fdN p msg lx := ⟨_, rfl⟩
        rw [← hK2] at HAG
        have HK2 : Hid (K2 ≤ kx) := by show _ ≤ _; rw [hK2, HQ5.out.len]; exact fdN_le ..
        have HKW2 : Hid ((K2 < kx ∧ (lx.getD K2 noE).parts.length = PN ∧ (lx.getD K2 noE).parts.getD PT [] = []) ∨ K2 = kx) := by
          obtain ⟨h1, h2⟩ := HFE.out
          rw [← hK2, ← HQ5.out.len] at h2
          rw [← hK2, ← HK.out] at h1
          show _ ∨ _
          rcases HKW.out with ⟨h3, h4, h5⟩ | h3
          · rw [← HM.out, ← HK.out] at h2
            exact .inl ⟨h2.2 h3, by rw [h1]; exact h4, by rw [h1]; exact h5⟩
          · rw [← HM.out, ← HK.out] at h2
            have := HK2.out
            right
            rcases Nat.lt_or_ge K2 kx with h6 | h6
            · have := h2.1 h6
              omega
            · omega
        have HFI : Hid (fdI p msg lx = if K2 < kx then (K2 : Int) else -1) := by show _ = _; rw [fdI, ← hK2, ← HQ5.out.len]
        have HB5 : Hid (BlkAt g1 40 (bfD ⟨pm, am, age, lx⟩ (.slice ax kx cx)) w5) := HQ5.out.r1
        clear hK2
        go_wp2_with (refine wpList_load_part rfl 40 _ rfl rfl [] (bfD ⟨pm, am, age, lx⟩ (.slice ax kx cx)) [] HB5.out (by simp) rfl Try.underlying40 rfl (infoBf _ _) ?_)
        refine (find19_any ⟨pm, am, age, lx⟩ p msg (by show lx.length ≤ _; have := HQ5.out.le; omega) _ (.slice ax kx cx) rfl _ HQ5.out.en).mono ?_
        rintro e wA ⟨rfl, bA⟩
        have HQA : Hid (Lp g1 g2 g4 ⟨pm, am, age, l⟩ (.slice a4 m c4) p msg L w wA lx ax kx cx) := by
          obtain ⟨q1, q2, q3, q4, q5, q6, q7, q8, q9, q10⟩ := HQ5.out
          exact ⟨q1.kept bA, q2.kept bA, q3, q4, q5, q6.kept bA, q7.kept bA, q8.kept bA, stepB q9 bA, q10⟩
        have c3A : wA.cell? ⟨g1, 3, none⟩ = some (.slice ax kx cx) := HQA.out.r1.cell 3
        obtain ⟨vs, hV, hP⟩ := HQA.out.en.to
        have HV : Hid (EnV wA (.slice ax kx cx) lx vs) := hV
        have HP : Hid (PaV wA lx vs) := hP
        have HO0 : Hid (OwE wA wA (.slice none 0 0) [] [] wA) := OwE.start (Below.refl _ _)
        clear bA HQ5 HB5 hV hP e1 e12
        go_wp2_with (at_builtin; go_must (refine wpList_append_ens rfl _ _ rfl _ [] [] rfl HO0.out _ lx vs rfl HV.out HP.out (by have := HQA.out.le; simp only [List.length_nil]; omega) ?_))
        intro vB wB hOB
        replace hOB : OwE wA wA vB lx vs wB := hOB
        obtain ⟨aB, cB, rfl, -, -⟩ := id hOB.rd.len
        have hkx := HQA.out.len
        rw [← hkx] at hOB ⊢
        have HOB : Hid (OwE wA wA (.slice aB kx cB) lx vs wB) := hOB
        clear hOB HO0 c3A hkx
        obtain ⟨l3, hl3⟩ : ∃ l3, l3 = if K2 < lx.length then lx else lx ++ [⟨p, msg, now, List.replicate PN []⟩] := ⟨_, rfl⟩
        have HL3 : Hid (l3 = if K2 < lx.length then lx else lx ++ [⟨p, msg, now, List.replicate PN []⟩]) := hl3
        rw [← hl3] at HAG
        have hkx := HQA.out.len
        have HS3 : Hid (EnS l3) := by
          show EnS l3
          have hq := HQA.out.small
          rw [hl3]
          split
          · exact hq
          · intro e he
            rcases List.mem_append.1 he with h | h
            · exact hq e h
            · simp only [List.mem_cons, List.not_mem_nil, or_false] at h
              subst h
              exact ⟨by simp; omega, fun x hx => by rw [(List.mem_replicate.1 hx).2]; simp, HPl.out, HNow.out⟩
        have HLe3 : Hid (l3.length ≤ 501) := by
          show _ ≤ _
          have := HQA.out.le
          rw [hl3]
          split
          · omega
          · simp; omega
        clear hl3
        rcases HKW2.out with ⟨hk2, hpl, hpe⟩ | hk2
        focus
          have hfi2 : fdI p msg lx = (K2 : Int) := by have := HFI.out; rwa [if_pos hk2] at this
          have hl3 : l3 = lx := by have := HL3.out; rwa [if_pos (by omega)] at this
          have e30 : decide ((K2 : Int) < 0) = false := decide_eq_false (by omega)
          rename World => wC
          obtain ⟨vC, hvC⟩ : ∃ v, v = Value.slice aB kx cB := ⟨_, rfl⟩
          have HI : Hid (Ins wA wC vC l3 vs K2 PN) := by
            rw [hl3, hvC]
            have h := HOB.out
            have hp2 := (h.parts.kept h.own.below) K2 (by omega)
            exact ⟨h.len, h.own, by omega, hpl, hp2, fun i hi _ => h.parts i hi⟩
          rw [hfi2, ← hvC]
          clear hfi2 hl3 hpl hpe hk2 hvC HKW2 hkx e30
        rotate_left
        focus
          have hfi2 : fdI p msg lx = -1 := by have := HFI.out; rwa [if_neg (by omega)] at this
          have hl3 : l3 = lx ++ [⟨p, msg, now, List.replicate PN []⟩] := by have := HL3.out; rwa [if_neg (by omega)] at this
          rw [hfi2]
          have HOn : Hid (OwnG wA [⟨71, 4, .slice aB kx cB, kx, enC lx vs⟩] wB) := by show OwnG _ _ _; have := HOB.out.own; rwa [← hkx] at this
          have HVl : Hid (vs.length = kx) := by show _ = _; rw [HOB.out.len, hkx]
          subst hk2
          clear hfi2 hkx
          obtain ⟨si, hs1, hs2, hs3, hs4⟩ := infoStr19z
          obtain ⟨ei, ez, he1, he2, he3, he4, he5⟩ := info_en
          go_wp2_with (at_make; go_must (refine wpList_make_full _ rfl _ _ 28 rfl wB.heap.size 9 si _ 1 Try.underlying28 hs1 hs2 hs3 _ _ _ _ PN rfl rfl rfl rfl (by rw [hs4]; omega) (by unfold maxLen; omega) (Nat.le_refl _) ?_))
          intro wm hom hgm
          have bm : Below wB.heap.size wB wm := (Below.refl _ _).grown hgm (Nat.le_refl _) (by simp)
          have hrm : RdC wm (.slice (some ⟨wB.heap.size, 0, none⟩) PN PN) ((List.replicate PN ([] : List UInt8)).map sv) := RdC.of_own (by rw [← zeStr]; exact hom)
          obtain ⟨gm, hgm2⟩ : ∃ g : Nat, g = wB.heap.size := ⟨_, rfl⟩
          rw [← hgm2] at hrm ⊢
          have HRm : Hid (RdC wm (.slice (some ⟨gm, 0, none⟩) PN PN) ((List.replicate PN ([] : List UInt8)).map sv)) := hrm
          have HOm : Hid (OwnG wA [⟨71, 4, .slice aB K2 cB, K2, enC lx vs⟩] wm) := HOn.out.kept bm
          have HLt : Hid (∀ b, (Value.slice aB K2 cB).ownBlock = some b → b < gm) := by show ∀ b, _; intro b hb; rw [hgm2]; exact HOn.out.lt _ (List.mem_cons_self ..) b hb
          clear hom hgm bm hrm hgm2 HOn
          go_wp2_with (first
            | refine wpList_buildB rfl 71 _ rfl #[(0, .string ⟨p.toArray⟩), (1, .int .i64 msg), (2, .int .u64 (now : Int)), (3, .slice (some ⟨gm, 0, none⟩) PN PN)] (by go_simp) _ (build_en p msg now (List.replicate PN []) (some ⟨gm, 0, none⟩) PN PN _) ?_
            | refine wpList_build18 rfl 38 _ rfl (.agg (enD ⟨p, msg, now, List.replicate PN []⟩ (.slice (some ⟨gm, 0, none⟩) PN PN)).toArray) rfl 71 (enD ⟨p, msg, now, List.replicate PN []⟩ (.slice (some ⟨gm, 0, none⟩) PN PN)) (slice_en _ _ _ _ _) ?_)
          intro wz rz bz
          go_wp2_with (at_builtin; go_must (refine wpList_append_R rfl _ _ 38 rfl 71 ei ez 4 56 Try.underlying38 he1 he2 he3 he4 he5 (by decide) _ K2 (enC lx vs) rfl (HOm.out.kept bz) _ 1 (enD ⟨p, msg, now, List.replicate PN []⟩ (.slice (some ⟨gm, 0, none⟩) PN PN)) rfl (RdE.blk rz rfl) (by intro u hu; simp [enD] at hu; rcases hu with rfl | rfl | rfl | rfl <;> rfl) (by unfold maxLen; have := HQA.out.le; have := HQA.out.len; omega) (by have := HQA.out.le; have := HQA.out.len; omega) ?_))
          intro vC wC hOC hcC
          have HI : Hid (Ins wA wC vC l3 (vs ++ [.slice (some ⟨gm, 0, none⟩) PN PN]) K2 PN) := by
            have hlen := HQA.out.len
            have hvl := HVl.out
            rw [hl3]
            have e1 : (lx ++ [(⟨p, msg, now, List.replicate PN []⟩ : Ent)]).getD K2 noE = ⟨p, msg, now, List.replicate PN []⟩ := by simp [hlen]
            have e2 : (vs ++ [Value.slice (some ⟨gm, 0, none⟩) PN PN]).getD K2 undef = Value.slice (some ⟨gm, 0, none⟩) PN PN := by rw [← hvl]; simp
            refine ⟨by simp; omega, ?_, by simp; omega, by rw [e1]; simp, ?_, fun i hi hne => ?_⟩
            · rw [enC_append (by omega), List.length_append]
              have e3 : enC [⟨p, msg, now, List.replicate PN []⟩] [Value.slice (some ⟨gm, 0, none⟩) PN PN] = enD ⟨p, msg, now, List.replicate PN []⟩ (.slice (some ⟨gm, 0, none⟩) PN PN) := by simp [enC]
              rw [e3, ← hlen]
              exact hOC
            · rw [e1, e2]
              exact (HRm.out.kept bz).chg18 hcC fun e => by have := HLt.out _ e.symm; omega
            · rw [List.length_append] at hi
              simp only [List.length_cons, List.length_nil] at hi
              have hil : i < lx.length := by omega
              have e4 : (lx ++ [(⟨p, msg, now, List.replicate PN []⟩ : Ent)]).getD i noE = lx.getD i noE := by simp [List.getElem?_append_left hil]
              have e5 : (vs ++ [Value.slice (some ⟨gm, 0, none⟩) PN PN]).getD i undef = vs.getD i undef := by simp [List.getElem?_append_left (show i < vs.length by omega)]
              rw [e4, e5]
              exact HOB.out.parts i hil
          clear hl3 HVl hOC rz bz HRm HOm HKW2 HLt hcC
          generalize (vs ++ [Value.slice (some ⟨gm, 0, none⟩) PN PN]) = vs at HI
        all_goals
          obtain ⟨gE, cE, rfl, hlE, hbE, hltE, hfE, hcE⟩ := own_place (show World.ownsRow wC wA.heap.size 71 4 vC l3.length (enC l3 vs) from HI.out.own.rows _ (List.mem_cons_self ..)) (show 0 < l3.length by have := HI.out.kl; omega)
          obtain ⟨N3, hN3⟩ : ∃ n, n = l3.length := ⟨_, rfl⟩
          obtain ⟨aP, cP, hvp, hlP, hcmP⟩ := HI.out.at'.form
          rw [List.length_map, HI.out.pl] at hvp hlP
          have hkl := HI.out.kl
          have c27 : wC.cell? ⟨gE, K2 * 4 + 3, none⟩ = some (.slice aP PN cP) := by
            rw [hcE _ (by rw [enC_len HI.out.len]; omega), enC_at HI.out.len hkl (by decide)]
            simp only [enD, List.getElem?_cons_succ, List.getElem?_cons_zero]
            rw [← hvp]
          rw [← hN3] at HI hlE hkl ⊢
          have HN3 : Hid (N3 = l3.length) := hN3
          obtain ⟨ps, hps⟩ : ∃ ps, ps = (l3.getD K2 noE).parts := ⟨_, rfl⟩
          have HPS : Hid (ps = (l3.getD K2 noE).parts) := hps
          have HPsl : Hid (ps.length = PN) := by show _ = _; rw [hps]; exact HI.out.pl
          have HRP : Hid (RdE wC (.slice aP PN cP) 1 PN (ps.map sv)) := by
            have h := HI.out.at'.rdE
            rw [hvp, List.length_map, HI.out.pl, ← hps] at h
            exact h
          have hOw : OwnG wA [⟨71, 4, .slice (some ⟨gE, 0, none⟩) N3 cE, N3, enC l3 vs⟩] wC := by have := HI.out.own; rwa [← hN3] at this
          have HOw : Hid (OwnG wA [⟨71, 4, .slice (some ⟨gE, 0, none⟩) N3 cE, N3, enC l3 vs⟩] wC) := hOw
          have HKl : Hid (K2 < N3) := hkl
          have hkI : (K2 : Int) < (N3 : Int) := by omega
          obtain ⟨si, hs1, hs2, hs3, hs4⟩ := infoStr19z
          clear hcE hvp hps hN3 hfE hOw hltE
          go_wp2_with (at_builtin; go_must (refine wpList_append_R rfl _ _ 28 rfl 9 si _ 1 16 Try.underlying28 hs1 hs2 hs3 hs4 rfl (by decide) _ 0 [] rfl (HOw.out.nil 9 1) _ PN (ps.map sv) rfl HRP.out (fun u hu => by obtain ⟨z, rfl⟩ := map_sv _ u hu; rfl) (by unfold maxLen; omega) (by omega) ?_))
          intro v23 w23 hO23 hc23
          replace hO23 : OwnG wA [⟨9, 1, v23, PN, ps.map sv⟩, ⟨71, 4, .slice (some ⟨gE, 0, none⟩) N3 cE, N3, enC l3 vs⟩] w23 := by simpa using hO23
          obtain ⟨gP, cP2, rfl, hlP2, hbP, hltP, hfP, -⟩ := own_place (show World.ownsRow w23 wA.heap.size 9 1 v23 PN (ps.map sv) from hO23.rows _ (List.mem_cons_self ..)) (by omega)
          have HBd : Hid (BlkAt g1 40 (bfD ⟨pm, am, age, lx⟩ (.slice ax _ cx)) wA) := HQA.out.r1
          have HB2 : Hid (BlkAt g2 40 zbD wA) := HQA.out.r2
          have HBA : Hid (Below w.heap.size w wA) := HQA.out.below
          have HGA : Hid (g1 < wA.heap.size ∧ g2 < wA.heap.size) := ⟨HBd.out.lt, HB2.out.lt⟩
          have hb23 := hO23.below
          have hcv := conv19 ((HB.out.kept HBA.out).kept (by have := hO23.below; exact this))
          obtain ⟨BB, hBB⟩ : ∃ B : ByteArray, B = ⟨body.toArray⟩ := ⟨_, rfl⟩
          rw [← hBB] at hcv
          have HBB : Hid (BB = ⟨body.toArray⟩) := hBB
          have hO28 := hO23.stored PT (.string BB)
          have hO29 := hO28.swap.stored (K2 * 4 + 3) (.slice (some ⟨gP, 0, none⟩) PN cP2)
          have c28 := own_cell18 (j := PT) (show World.ownsRow w23 wA.heap.size 9 1 (.slice (some ⟨gP, 0, none⟩) PN cP2) PN (ps.map sv) from hO23.rows _ (List.mem_cons_self ..)) (by rw [List.length_map, HPsl.out]; exact hPT)
          have c29 := own_cell18 (j := K2 * 4 + 3) (show World.ownsRow (w23.setCell ⟨gP, PT, none⟩ (.string BB)) wA.heap.size 71 4 (.slice (some ⟨gE, 0, none⟩) N3 cE) N3 (enC l3 vs) from hO28.rows _ (List.mem_cons_of_mem _ (List.mem_cons_self ..))) (by rw [enC_len HI.out.len, ← HN3.out]; omega)
          have f28 : w23.frozen? ⟨gP, PT, none⟩ = false := hfP PT
          have f29 : World.frozen? (w23.setCell ⟨gP, PT, none⟩ (.string BB)) ⟨gE, K2 * 4 + 3, none⟩ = false := (hO28.rows _ (List.mem_cons_of_mem _ (List.mem_cons_self ..))).frozenAt _
          have r28 := (HBd.out.kept hb23).wrote (Wrote.set gP PT w23 (.string BB)) (by have := HGA.out; omega)
          have r29 := r28.wrote (Wrote.set gE (K2 * 4 + 3) _ (.slice (some ⟨gP, 0, none⟩) PN cP2)) (by have := HGA.out; omega)
          have z28 := (HB2.out.kept hb23).wrote (Wrote.set gP PT w23 (.string BB)) (by have := HGA.out; omega)
          have z29 := z28.wrote (Wrote.set gE (K2 * 4 + 3) _ (.slice (some ⟨gP, 0, none⟩) PN cP2)) (by have := HGA.out; omega)
          have f30 := r29.free 3
          have c30 : World.cell? _ ⟨g1, 3, none⟩ = some (.slice ax _ cx) := r29.cell 3
          have hw30 := Wrote.set g1 3 ((w23.setCell ⟨gP, PT, none⟩ (.string BB)).setCell ⟨gE, K2 * 4 + 3, none⟩ (.slice (some ⟨gP, 0, none⟩) PN cP2)) (.slice (some ⟨gE, 0, none⟩) N3 cE)
          have r30 := BlkAt.set r29 3 (.slice (some ⟨gE, 0, none⟩) N3 cE)
          have z30 := z29.wrote hw30 (by have := HGd.out; omega)
          have HO29 : Hid _ := hO29
          have hPI : (PT : Int) < (PN : Int) := by omega
          obtain ⟨e', he'⟩ : ∃ e', e' = inE (l3.getD K2 noE) PT body := ⟨_, rfl⟩
          obtain ⟨l4, hl4⟩ : ∃ l4, l4 = l3.set K2 e' := ⟨_, rfl⟩
          obtain ⟨qs, hqs⟩ : ∃ qs, qs = ps.set PT body := ⟨_, rfl⟩
          have hep : e'.parts = qs := by rw [he', hqs, HPS.out]; rfl
          have HAG2 : Hid (R = if fuB qs = true then (⟨pm, am, age, l4.eraseIdx K2⟩, qs.flatten, 0) else (⟨pm, am, age, l4⟩, [], 0)) := by
            show _ = _
            rw [HF.out, HAG.out, ← he', hep, ← hl4]
          have hqm : (ps.map sv).set PT (.string BB) = qs.map sv := by rw [hqs, List.map_set, HBB.out]; rfl
          have HQl : Hid (qs.length = PN) := by show _ = _; rw [hqs, List.length_set, HPsl.out]
          have HQb : Hid (∀ x ∈ qs, x.length ≤ 1024) := by
            show ∀ x ∈ _, _
            intro x hx
            rw [hqs] at hx
            rcases List.mem_or_eq_of_mem_set hx with h | h
            · rw [HPS.out] at h
              exact (HS3.out.at (k := K2) (by rw [← HN3.out]; exact HKl.out)).t x h
            · rw [h, ← HL.out]
              exact HMb.out.2.2.2.2.2.2.2
          obtain ⟨wF, hwF⟩ : ∃ wF : World, wF = World.setCell ((w23.setCell ⟨gP, PT, none⟩ (.string BB)).setCell ⟨gE, K2 * 4 + 3, none⟩ (.slice (some ⟨gP, 0, none⟩) PN cP2)) ⟨g1, 3, none⟩ (.slice (some ⟨gE, 0, none⟩) N3 cE) := ⟨_, rfl⟩
          have HwF : Hid (wF = World.setCell ((w23.setCell ⟨gP, PT, none⟩ (.string BB)).setCell ⟨gE, K2 * 4 + 3, none⟩ (.slice (some ⟨gP, 0, none⟩) PN cP2)) ⟨g1, 3, none⟩ (.slice (some ⟨gE, 0, none⟩) N3 cE)) := hwF
          have hP29 : RdC ((w23.setCell ⟨gP, PT, none⟩ (.string BB)).setCell ⟨gE, K2 * 4 + 3, none⟩ (.slice (some ⟨gP, 0, none⟩) PN cP2)) (.slice (some ⟨gP, 0, none⟩) PN cP2) (qs.map sv) := by
            have h := RdC.of_own (show World.ownsRow ((w23.setCell ⟨gP, PT, none⟩ (.string BB)).setCell ⟨gE, K2 * 4 + 3, none⟩ (.slice (some ⟨gP, 0, none⟩) PN cP2)) wA.heap.size 9 1 (.slice (some ⟨gP, 0, none⟩) PN cP2) PN ((ps.map sv).set PT (.string BB)) from hO29.rows _ (List.mem_cons_of_mem _ (List.mem_cons_self ..)))
            rw [hqm] at h
            exact h
          have HpF : Hid (RdC wF (.slice (some ⟨gP, 0, none⟩) PN cP2) (qs.map sv)) := by
            show RdC wF _ _
            rw [hwF]
            exact hP29.chg18 (Chg.of_wrote hw30) (by have := HGA.out; omega)
          have HeF : Hid (EnR wF (.slice (some ⟨gE, 0, none⟩) N3 cE) l4) := by
            show EnR wF _ _
            rw [hwF]
            refine EnR.past (w := (w23.setCell ⟨gP, PT, none⟩ (.string BB)).setCell ⟨gE, K2 * 4 + 3, none⟩ (.slice (some ⟨gP, 0, none⟩) PN cP2)) ?_ r29 (bfD_no _ _ _ _) (Chg.of_wrote hw30)
            have hrow := RdE.of_own (show World.ownsRow ((w23.setCell ⟨gP, PT, none⟩ (.string BB)).setCell ⟨gE, K2 * 4 + 3, none⟩ (.slice (some ⟨gP, 0, none⟩) PN cP2)) wA.heap.size 71 4 (.slice (some ⟨gE, 0, none⟩) N3 cE) N3 ((enC l3 vs).set (K2 * 4 + 3) (.slice (some ⟨gP, 0, none⟩) PN cP2)) from hO29.rows _ (List.mem_cons_self ..))
            have hlen := HI.out.len
            have hkl3 : K2 < l3.length := by rw [← HN3.out]; exact HKl.out
            rw [enC_set (e := e') hlen hkl3 (by rw [he']; rfl) (by rw [he']; rfl) (by rw [he']; rfl), ← hl4] at hrow
            have hl4l : l4.length = N3 := by rw [hl4, List.length_set, HN3.out]
            refine EnR.of (vs := vs.set K2 (.slice (some ⟨gP, 0, none⟩) PN cP2)) ⟨by rw [List.length_set, hlen, hl4, List.length_set], by rw [hl4l]; exact hrow⟩ fun k hk => ?_
            by_cases hkK : k = K2
            · subst hkK
              have e1 : (vs.set k (Value.slice (some ⟨gP, 0, none⟩) PN cP2)).getD k undef = .slice (some ⟨gP, 0, none⟩) PN cP2 := by simp [show k < vs.length by omega]
              have e2 : l4.getD k noE = e' := by rw [hl4]; simp [hkl3]
              rw [e1, e2, hep]
              exact hP29
            · have e1 : (vs.set K2 (Value.slice (some ⟨gP, 0, none⟩) PN cP2)).getD k undef = vs.getD k undef := by simp [List.getElem?_set, Ne.symm hkK]
              have e2 : l4.getD k noE = l3.getD k noE := by rw [hl4]; simp [List.getElem?_set, Ne.symm hkK]
              rw [e1, e2]
              exact (HI.out.ot k (by rw [hl4, List.length_set] at hk; exact hk) hkK).kept hO29.below
          have HB29 : Hid (Below w.heap.size w wF) := by
            show Below _ _ wF
            rw [hwF]
            exact hw30.below _ _ HGd.out.2.2.2.1 (HBA.out.trans (hO29.below.mono HBA.out.size))
          have HRF : Hid (BlkAt g1 40 (bfD ⟨pm, am, age, l4⟩ (.slice (some ⟨gE, 0, none⟩) N3 cE)) wF) := by
            show BlkAt _ _ _ wF
            rw [hwF]
            exact r30
          have HZF : Hid (BlkAt g2 40 zbD wF) := by
            show BlkAt _ _ _ wF
            rw [hwF]
            exact z30
          have HL4 : Hid (l4.length = N3) := by show _ = _; rw [hl4, List.length_set, HN3.out]
          clear hO28 hO29 hO23 hc23 hbP hltP hfP hb23 r28 z28 r29 z29 hBB he' hl4 hqs hep hqm hP29 r30 z30 hw30 hwF
          go_wp2
          rw [← HwF.out]
          clear c28 c29 c30 f28 f29 f30 c27 hcv HwF
          go_loopw [24, 25] (fun ov iv wx => ∃ (i : Nat) (o : List UInt8), i ≤ PN ∧ iv = .int .i64 (i : Int) ∧ ov = .string ⟨o.toArray⟩ ∧ o.length ≤ i * 1024 ∧ Hid (o = (qs.take i).flatten ∧ ∀ k, k < i → qs.getD k [] ≠ []) ∧ Hid (wx = wF)) (fun _ iv _ => PN - (intOf iv).toNat)
          case atStart => exact ⟨0, [], by omega, rfl, rfl, by simp, ⟨by simp, fun k hk => by omega⟩, rfl⟩
          case round =>
            obtain ⟨i, o, hi, rfl, rfl, hol, HX, HWW⟩ := hrel
            have hww : wF = wr := HWW.out.symm
            clear HWW
            subst hww
            by_cases hlt3 : i < PN
            · have hd3 : decide ((i : Int) < (PN : Int)) = true := decide_eq_true (by omega)
              have hiI : (i : Int) < (PN : Int) := by omega
              have hil : i < qs.length := by rw [HQl.out]; exact hlt3
              obtain ⟨b5, o5, c5, e5, -, -, hc5⟩ := HpF.out.cellAt (i := i) (by rw [List.length_map]; exact hil)
              simp only [Value.slice.injEq, Option.some.injEq, Addr.mk.injEq, and_true] at e5
              obtain ⟨⟨rfl, rfl⟩, -, -⟩ := e5
              obtain ⟨x5, hx5⟩ : ∃ x, x = qs.getD i [] := ⟨_, rfl⟩
              have hxl : x5.length ≤ 1024 := HQb.out x5 (by rw [hx5]; simp [hil])
              have hc6 : wF.cell? ⟨gP, i, none⟩ = some (.string ⟨x5.toArray⟩) := by rw [Nat.zero_add] at hc5; rw [hc5, hx5]; simp [sv, hil]
              have HX5 : Hid (x5 = qs.getD i []) := hx5
              clear hc5 hx5
              by_cases hx0' : x5 = []
              · have hy1' : (x5 == ([] : List UInt8)) = true := by simpa using hx0'
                have HRv : Hid (R = (⟨pm, am, age, l4⟩, [], 0)) := by
                  have := HAG2.out
                  rw [fuB_not hil (by rw [← HX5.out]; exact hx0'), if_neg (by decide)] at this
                  exact this
                clear hx0' hil
                go_wp2_with (first
                  | refine wpList_load_part rfl 40 _ rfl rfl [] (bfD ⟨pm, am, age, l4⟩ (.slice (some ⟨gE, 0, none⟩) N3 cE)) [] HRF.out (by simp) rfl Try.underlying40 rfl (infoBf _ _) ?_
                  | (refine wpList_store_part rfl 40 _ _ rfl rfl (bfD ⟨pm, am, age, l4⟩ (.slice (some ⟨gE, 0, none⟩) N3 cE)) rfl [] zbD [] (bfD ⟨pm, am, age, l4⟩ (.slice (some ⟨gE, 0, none⟩) N3 cE)) HZF.out rfl rfl rfl rfl (infoBf ⟨pm, am, age, l4⟩ (.slice (some ⟨gE, 0, none⟩) N3 cE)) (bfD_one _ _ _ _) ?_))
                intro wx rx hwx
                iterate 11 go_step
                dsimp +zetaDelta only [Exit.then, Exit.inBlock]
                refine bodyPost_b3 rfl rfl rfl rfl rfl rx Try.underlying40 rfl (infoBf _ _) ?_
                have hbx : Below w.heap.size w wx := hwx.below _ _ HGd.out.2.2.2.2.1 HB29.out
                rw [HRv.out]
                exact ⟨_, rfl, HeF.out.past HZF.out zbD_no (Chg.of_wrote hwx), hbx⟩
              · have hy1' : (x5 == ([] : List UInt8)) = false := by simpa using hx0'
                have HX6 : Hid (o ++ x5 = (qs.take (i + 1)).flatten ∧ ∀ k, k < i + 1 → qs.getD k [] ≠ []) := by
                  refine ⟨?_, fun k hk => ?_⟩
                  · rw [List.take_succ_eq_append_getElem hil, List.flatten_append, ← HX.out.1, HX5.out]
                    simp [hil]
                  · rcases Nat.lt_or_ge k i with h | h
                    · exact HX.out.2 k h
                    · rw [show k = i by omega, ← HX5.out]
                      exact hx0'
                obtain ⟨OB, hOB2⟩ : ∃ B : ByteArray, B = ⟨o.toArray⟩ := ⟨_, rfl⟩
                obtain ⟨XB, hXB⟩ : ∃ B : ByteArray, B = ⟨x5.toArray⟩ := ⟨_, rfl⟩
                obtain ⟨ZB, hZB⟩ : ∃ B : ByteArray, B = ⟨(o ++ x5).toArray⟩ := ⟨_, rfl⟩
                have hadd := addP19 o x5 (o ++ x5) OB XB ZB hOB2 hXB hZB rfl (by omega) (by omega)
                have hzl : (o ++ x5).length ≤ (i + 1) * 1024 := by rw [List.length_append]; omega
                have HZB : Hid (ZB = ⟨(o ++ x5).toArray⟩) := hZB
                rw [← hXB] at hc6
                rw [← hOB2]
                obtain ⟨z5, hz5⟩ : ∃ z, z = o ++ x5 := ⟨_, rfl⟩
                rw [← hz5] at hzl HX6 HZB
                have hy3' : (XB.toList == []) = false := by rw [hXB, str_toList]; exact hy1'
                clear hOB2 hXB hZB hz5 hx0' hol hxl hil
                go_wp2
                rw [HZB.out]
                go_roundw
                case rel => exact ⟨i + 1, z5, by omega, by go_num, rfl, hzl, HX6, trivial⟩
                case measure => simp [intOf] <;> omega
            · have hd3 : decide ((i : Int) < (PN : Int)) = false := decide_eq_false (by omega)
              have hiI : (PN : Int) ≤ (i : Int) := by omega
              have hiP : i = PN := by omega
              have HRv : Hid (R = (⟨pm, am, age, l4.eraseIdx K2⟩, o, 0)) := by
                show R = _
                have h := HAG2.out
                rw [fuB_yes (fun k hk => HX.out.2 k (by rw [HQl.out] at hk; omega)), if_pos rfl] at h
                rw [show R = _ from h, HX.out.1, List.take_of_length_le (by rw [HQl.out]; omega)]
              clear hiP
              go_wp2_with (refine wpList_load_part rfl 40 _ rfl rfl [] (bfD ⟨pm, am, age, l4⟩ (.slice (some ⟨gE, 0, none⟩) N3 cE)) [] HRF.out (by simp) rfl Try.underlying40 rfl (infoBf _ _) ?_)
              refine (without19_any ⟨pm, am, age, l4⟩ K2 (by show K2 < l4.length; rw [HL4.out]; exact HKl.out) (by show l4.length ≤ _; rw [HL4.out, HN3.out]; have := HLe3.out; omega) _ (.slice (some ⟨gE, 0, none⟩) N3 cE) rfl _ HeF.out).mono ?_
              rintro e wY ⟨vY, rfl, hEY, bY⟩
              obtain ⟨aY, cY, rfl, -, -⟩ := id hEY.len
              obtain ⟨nY, hnY⟩ : ∃ k, k = (l4.eraseIdx K2).length := ⟨_, rfl⟩
              have hnY' : (List.eraseIdx (Bf.l ⟨pm, am, age, l4⟩) K2).length = nY := hnY.symm
              rw [hnY'] at hEY ⊢
              have HEY : Hid (EnR wY (.slice aY nY cY) (l4.eraseIdx K2)) := hEY
              have HBY : Hid (Below w.heap.size w wY) := stepB HB29.out bY
              have hzY := HZF.out.kept bY
              clear hnY hnY' hEY bY
              go_wp2_with (refine wpList_store_part rfl 40 _ _ rfl rfl (bfD ⟨pm, am, age, l4.eraseIdx K2⟩ (.slice aY nY cY)) rfl [] zbD [] (bfD ⟨pm, am, age, l4.eraseIdx K2⟩ (.slice aY nY cY)) hzY rfl rfl rfl rfl (infoBf ⟨pm, am, age, l4.eraseIdx K2⟩ (.slice aY nY cY)) (bfD_one _ _ _ _) ?_)
              intro wx rx hwx
              iterate 11 go_step
              try dsimp +zetaDelta only [Exit.then, Exit.inBlock]
              refine bodyPost_b3 rfl rfl rfl rfl rfl rx Try.underlying40 rfl (infoBf _ _) ?_
              have hbx : Below w.heap.size w wx := hwx.below _ _ HGd.out.2.2.2.2.1 HBY.out
              rw [HRv.out]
              exact ⟨_, rfl, HEY.out.past hzY zbD_no (Chg.of_wrote hwx), hbx⟩
end Go.Proofs.Ytkljklfejaojaaa
