/- New, Split, and what is put into a buffer that is none: contracts of package frag, fourteenth part. -/
import Derived.Test.YtkljklfejaojaaaFg19m
import Derived.Test.YtkljklfejaojaaaCut
namespace Go.Proofs.Ytkljklfejaojaaa
open Go.ChangeShapes Go.WideShapes Go.ChangeAt Go.RowKit
set_option linter.unusedSimpArgs false
set_option linter.unusedVariables false

theorem wpList_val19 {P : Program} {ops : Array Oper} {rest : List Oper} {op : Oper} {a : Act} {w : World} {Q : Exit → Act → World → Prop} {v : Value} (hg : op.guard = none) (hy : (execOp a.eval op).run P w = .ok (.value v) w)
    (h : wpList P ops Q rest (a.put op.dst v) w) : wpList P ops Q (op :: rest) a w := by
  refine wpList_plain hg fun K hK => ?_
  unfold Oper.wp
  rw [hy]
  exact hK _ _ h
theorem build_l19 (x y : Int) (g : Nat) (w : World) : (Instr.build 37 #[(0, .int .i64 x), (1, .int .i64 y), (2, .int .u64 (g : Int))]).run Try.prog w = .ok (.agg #[.int .i64 x, .int .i64 y, .int .u64 (g : Int)]) w := by kernel_rfl
theorem build_b19 (x y : Int) (g : Nat) (w : World) : (Instr.build 63 #[(0, .agg #[.int .i64 x, .int .i64 y, .int .u64 (g : Int)])]).run Try.prog w = .ok (.agg #[.int .i64 x, .int .i64 y, .int .u64 (g : Int), .slice none 0 0]) w := by kernel_rfl
/-- A block of another kind is written. -/
theorem BuP.pastT {K : Nat → Prop} {w w' : World} {gb g : Nat} {bf : Bf} {ty : TypeId} {cs : List Value} (h : BuP K w gb bf) (hb : BlkAt g ty cs w) (h1 : ty ≠ 63) (h2 : ty ≠ 68) (h3 : ty ≠ 22) (h4 : ty ≠ 66) (h5 : ty ≠ 5) (c : Chg (fun k => k = g) w w') : BuP K w' gb bf := by
  obtain ⟨ve, xs, h⟩ := h
  refine ⟨ve, xs, h.l, h.blk.chg c (blk_ne h.blk hb (Ne.symm h1)), h.kb, own_chgG h.row c (own_neF h.row hb h4), h.kr, fun z hz => ?_, h.dist⟩
  obtain ⟨us, hu⟩ := h.ent z hz
  exact ⟨us, hu.past hb (blk_ne hu.blk hb (Ne.symm h2)) (blk_ne hu.row hb (Ne.symm h3)) h5 c⟩
/-- A buffer that was made. -/
theorem BuP.start {K : Nat → Prop} {w : World} {gb : Nat} {b : Bf} (h : BlkAt gb 63 (buK b (.slice none 0 0)) w) (hk : K gb) (hl : b.l = []) : BuP K w gb b :=
  ⟨.slice none 0 0, [], by rw [hl]; rfl, h, hk, World.ownsRow_nil _ _ _ _, fun g hg => by simp [Value.ownBlock] at hg, (fun x hx => by cases hx), List.Pairwise.nil⟩
set_option maxRecDepth 100000 in
set_option maxHeartbeats 4000000 in
theorem new_any (x y : Int) (g : Nat) (w : World) :
    Calls Try.prog 11 #[.agg #[.int .i64 x, .int .i64 y, .int .u64 (g : Int)]] w fun e w' => ∃ gb, e = .returned (pV gb) ∧ w.heap.size ≤ gb ∧ BlkAt gb 63 (buK (nwF x y g) (.slice none 0 0)) w' ∧ Below w.heap.size w w' := by
  obtain ⟨x', hx'⟩ : ∃ x', x' = lsN x := ⟨_, rfl⟩
  obtain ⟨y', hy'⟩ : ∃ y', y' = lsN y := ⟨_, rfl⟩
  have HE : Hid (buK (nwF x y g) (.slice none 0 0) = [.int .i64 x', .int .i64 y', .int .u64 (g : Int), .slice none 0 0]) := by show _ = _; rw [hx', hy']; rfl
  have hmx : max x 0 = x' := by rw [hx', lsN]; split <;> omega
  have hmy : max y 0 = y' := by rw [hy', lsN]; split <;> omega
  clear hx' hy'
  go_enter Try.func11, Try.ntmps11
  go_wp2_with (refine wpList_box_blk rfl 37 _ rfl [.int .i64 x, .int .i64 y, .int .u64 (g : Int)] (by rfl) ?_)
  intro w1 r1 b1 s1
  obtain ⟨g1, hg1⟩ : ∃ g, g = w.heap.size := ⟨_, rfl⟩
  rw [← hg1] at r1 ⊢
  have c0 := r1.cell 0
  have c1 := r1.cell 1
  have c2 := r1.cell 2
  replace c0 : w1.cell? ⟨g1, 0, none⟩ = some (.int .i64 x) := c0
  replace c1 : w1.cell? ⟨g1, 1, none⟩ = some (.int .i64 y) := c1
  replace c2 : w1.cell? ⟨g1, 2, none⟩ = some (.int .u64 (g : Int)) := c2
  have hl := build_l19 x' y' g w1
  have hb := build_b19 x' y' g w1
  have HB1 : Hid (Below w.heap.size w w1) := b1
  clear s1 hg1 b1 r1
  go_wp2_with (refine wpList_box_blk rfl 63 _ rfl [.int .i64 x', .int .i64 y', .int .u64 (g : Int), .slice none 0 0] (by rfl) ?_)
  intro w2 r2 b2 s2
  clear s2 hl hb
  go_wp2
  go_ret
  exact ⟨w1.heap.size, rfl, HB1.out.size, by rw [HE.out]; exact r2, stepB HB1.out b2⟩
set_option maxRecDepth 100000 in
set_option maxHeartbeats 4000000 in
theorem add_none (p : List UInt8) (msg part parts : Int) (av : Option Addr) (n c : Nat) (now : Int) (w : World) :
    Calls Try.prog 17 #[.pointer none, .string ⟨p.toArray⟩, .int .i64 msg, .int .i64 part, .int .i64 parts, .slice av n c, .int .u64 now] w fun e w' => e = .returned (.tuple #[.slice none 0 0, .int .i64 1]) ∧ w' = w := by
  go_enter Try.func17, Try.ntmps17
  go_wp2
  go_ret2
  exact ⟨rfl, rfl⟩
/-- A message's pieces as rows of their own. -/
def pcR (vs : List Value) (ls : List (List UInt8)) : List Rw := List.zipWith (Rw.by 5) vs ls
theorem pcR_append (vs : List Value) (ls : List (List UInt8)) (v : Value) (l : List UInt8) (h : vs.length = ls.length) : pcR (vs ++ [v]) (ls ++ [l]) = pcR vs ls ++ [Rw.by 5 v l] := by
  unfold pcR
  rw [List.zipWith_append h]
  rfl
/-- Pieces told so far. -/
structure SpS (w0 : World) (v : Value) (vs : List Value) (ls : List (List UInt8)) (w : World) : Prop where
  len : vs.length = ls.length
  own : OwnG w0 (⟨22, 1, v, ls.length, vs⟩ :: pcR vs ls) w
  one : ∀ u ∈ vs, u.oneCell' = true
theorem newsL {w : World} {e : TypeId} (u : Value) {b : Nat} (hb : b = w.heap.size) : ∀ j x, [u][j]? = some x → (w.alloc (.cells #[u] e)).cell? ((⟨b, 0, none⟩ : Addr).add j) = some x := by
  intro j x h
  match j with
  | 0 =>
    obtain rfl : u = x := by simpa using h
    exact newsF u hb
  | j + 1 => simp at h
theorem Rd.one19 {w : World} {v : Value} {l : List UInt8} (h : Rd w v l) : v.oneCell' = true := by
  obtain ⟨a, c, rfl, -⟩ := h
  rfl
set_option maxRecDepth 100000 in
set_option maxHeartbeats 4000000 in
theorem split_any (m : List UInt8) (v : Value) (w : World) (hr : Rd w v m) :
    Calls Try.prog 9 #[v] w fun r w' => ∃ v' vs, r = .returned (.tuple #[v', .int .i64 (spF m).2]) ∧ SpS w v' vs (spF m).1 w' := by
  obtain ⟨ti, ht1, ht2, ht3, ht4⟩ := infoSl19
  obtain ⟨a, c, rfl, h2, h3, hn, h5⟩ := id hr
  have HMx : Hid (m.length ≤ c ∧ c ≤ maxLen ∧ (a = none → c = 0)) := ⟨h2, h3, hn⟩
  unfold maxLen at h3
  obtain ⟨L, hL⟩ : ∃ L : Nat, L = m.length := ⟨_, rfl⟩
  rw [← hL] at h2 hr HMx ⊢
  have HL : Hid (L = m.length) := hL
  have HR : Hid (Rd w (.slice a L c) m) := hr
  clear hr hL h5 hn
  have HS0 : Hid (SpS w (.slice none 0 0) [] [] w) := ⟨rfl, (OwnG.start w).nil _ 1, fun u hu => by cases hu⟩
  by_cases h0 : L = 0
  · have hd : ((L : Int) == 0) = true := by simp [h0]
    have HF : Hid (spF m = ([], 1)) := by show _ = _; unfold spF; rw [if_pos (by rw [← HL.out]; exact h0)]
    rw [HF.out]
    clear h0
    go_enter Try.func9, Try.ntmps9
    go_wp2
    go_ret2
    exact ⟨_, [], rfl, HS0.out⟩
  have hd : ((L : Int) == 0) = false := by simp [h0]
  by_cases h1 : 65536 < L
  · have hd1 : decide ((65536 : Int) < (L : Int)) = true := decide_eq_true (by omega)
    have HF : Hid (spF m = ([], 14)) := by show _ = _; unfold spF; rw [if_neg (by rw [← HL.out]; exact h0), if_pos (by rw [← HL.out]; exact h1)]
    rw [HF.out]
    clear h0
    go_enter Try.func9, Try.ntmps9
    go_wp2
    go_ret2
    exact ⟨_, [], rfl, HS0.out⟩
  have hd1 : decide ((65536 : Int) < (L : Int)) = false := decide_eq_false (by omega)
  obtain ⟨K, hK⟩ : ∃ K, K = (L + 1023) / 1024 := ⟨_, rfl⟩
  have HK : Hid (K = (L + 1023) / 1024) := hK
  have HF : Hid (spF m = (spP m K, 0)) := by show _ = _; unfold spF; rw [if_neg (by rw [← HL.out]; exact h0), if_neg (by rw [← HL.out]; exact h1), ← HL.out, hK]
  have HL6 : Hid (L ≤ 65536) := by show _ ≤ _; omega
  clear hK
  rw [HF.out]
  go_enter Try.func9, Try.ntmps9
  go_wp2
  go_loopw [0, 4] (fun mv ov wx => ∃ (k n : Nat) (ab : Option Addr) (cb : Nat) (vs : List Value), mv = .slice ab n cb ∧ Hid (n = L - 1024 * k ∧ k ≤ K) ∧ Hid (n ≤ cb ∧ cb ≤ maxLen ∧ (ab = none → cb = 0)) ∧ Hid (Rd w (.slice ab n cb) (m.drop (1024 * k))) ∧ Hid (SpS w ov vs (spP m k) wx)) (fun mv _ _ => lenV mv)
  case atStart => exact ⟨0, L, a, c, [], rfl, ⟨by omega, by omega⟩, HMx.out, (by simpa using HR.out : Rd w (.slice a L c) (m.drop (1024 * 0))), HS0.out⟩
  case round =>
    obtain ⟨k, n, ab, cb, vs, rfl, HNk, HCb, HRk, HS⟩ := hrel
    by_cases hlt : 0 < n
    · have hd2 : decide ((0 : Int) < (n : Int)) = true := decide_eq_true (by omega)
      obtain ⟨s, hs⟩ : ∃ s, s = min n 1024 := ⟨_, rfl⟩
      have hmin : min (n : Int) 1024 = (s : Int) := by omega
      have HSz : Hid (s = min n 1024 ∧ s ≤ n ∧ 0 < s) := ⟨hs, by omega, by omega⟩
      have hRl : (m.drop (1024 * k)).length = n := by rw [List.length_drop, ← HL.out]; exact HNk.out.1.symm
      obtain ⟨q, hq⟩ : ∃ q, q = (m.drop (1024 * k)).take 1024 := ⟨_, rfl⟩
      have hq2 : (m.drop (1024 * k)).take s = q := by
        rw [hq]
        by_cases h : 1024 ≤ n
        · rw [hs, Nat.min_eq_right h]
        · rw [List.take_of_length_le (by omega), List.take_of_length_le (by omega)]
      have hd2' : (m.drop (1024 * k)).drop s = m.drop (1024 * (k + 1)) := by
        rw [List.drop_drop]
        by_cases h : 1024 ≤ n
        · rw [hs, Nat.min_eq_right h]
          congr 1
        · rw [List.drop_eq_nil_of_le (by rw [← HL.out]; have := HNk.out.1; omega), List.drop_eq_nil_of_le (by rw [← HL.out]; have := HNk.out.1; omega)]
      have hbw := HS.out.own.below
      have hrq : Rd wr (.slice ab s cb) q := by
        have := (HRk.out.kept hbw).take (n := s) (by omega)
        rw [hq2] at this
        exact this
      have HRq : Hid (Rd wr (.slice ab s cb) q) := hrq
      obtain ⟨ab2, hT1, hT2⟩ := exec_tail (ab := ab) (L := n) (cb := cb) (m := s) (by omega) HCb.out.1 HCb.out.2.1 HCb.out.2.2
      have HT : Hid (∀ {op : Oper} {a : Act} {W : World} (x h : Operand), op.op = .slice 22 x (some h) none none → a.eval x = .slice ab n cb → a.eval h = .int .i64 (s : Int) → (execOp a.eval op).run Try.prog W = .ok (.value (.slice ab2 (n - s) (cb - s))) W) := hT1
      have HRk2 : Hid (Rd w (.slice ab2 (n - s) (cb - s)) (m.drop (1024 * (k + 1)))) := by
        show Rd _ _ _
        rw [← hd2']
        exact hT2 w _ HRk.out
      have HCb2 : Hid (n - s ≤ cb - s ∧ cb - s ≤ maxLen ∧ (ab2 = none → cb - s = 0)) := by
        obtain ⟨a4, c4, e4, h41, h42, h43, -⟩ := HRk2.out
        simp only [Value.slice.injEq] at e4
        obtain ⟨rfl, e5, rfl⟩ := e4
        exact ⟨by rw [e5]; exact h41, h42, h43⟩
      have HNk2 : Hid (n - s = L - 1024 * (k + 1) ∧ k + 1 ≤ K) := by
        have h1 := HNk.out
        have h2 := HK.out
        show _ ∧ _
        omega
      have HSp : Hid (spP m (k + 1) = spP m k ++ [q]) := by show _ = _; rw [hq]; rfl
      have HTl : Hid (totL [q] ≤ 1000000000) := by
        show _ ≤ _
        rw [hq]
        simp only [totL, List.flatten_cons, List.flatten_nil, List.append_nil, List.length_take]
        omega
      have HLs : Hid ((spP m k).length ≤ 64 ∧ (spP m (k + 1)).length = (spP m k).length + 1) := by
        have h1 := HNk.out
        have h2 := HK.out
        have h3 := HL6.out
        have h4 : ∀ j, (spP m j).length = j := fun j => by
          induction j with
          | zero => rfl
          | succ j ih => simp [spP, ih]
        show _ ∧ _
        rw [h4, h4]
        omega
      clear hs hrq hRl hq hq2 hd2' hT1 hT2 hbw HRk
      go_wp2_with (refine wpList_val19 rfl (exec_head (L := n) (cb := cb) (m := s) _ _ rfl rfl rfl HSz.out.2.1 HCb.out.1 HCb.out.2.1 HCb.out.2.2) ?_)
      go_wp2_with fail
      refine (join_any _ _ _ _ (RdL.one19 (w := wr) (e := 22) (b := wr.heap.size) (v1 := .slice ab s cb) (l1 := q) rfl HRq.out) HTl.out).mono ?_
      rintro e w2 ⟨r, rfl, hN⟩
      rw [show [q].flatten = q by simp] at hN
      obtain ⟨ra, rc, rfl, -⟩ := id hN.rd
      obtain ⟨rl, hrl⟩ : ∃ rl, rl = q.length := ⟨_, rfl⟩
      rw [← hrl] at hN ⊢
      clear hrl
      have HO2 : Hid (OwnG w (⟨22, 1, u4, (spP m k).length, vs⟩ :: Rw.by 5 (.slice ra rl rc) q :: pcR vs (spP m k)) w2) := ((HS.out.own.kept (growB _)).new hN).swap
      have HOne : Hid ((Value.slice ra rl rc).oneCell' = true) := hN.rd.one19
      have HVl : Hid (vs.length = (spP m k).length) := HS.out.len
      have HVo : Hid (∀ u ∈ vs, u.oneCell' = true) := HS.out.one
      clear hN HS
      obtain ⟨j, hj⟩ : ∃ j, j = (spP m k).length := ⟨_, rfl⟩
      have HJ : Hid (j = (spP m k).length) := hj
      rw [← hj] at HO2 HLs HVl
      clear hj
      go_wp2_with (at_builtin; go_must (refine wpList_append_E rfl _ _ 24 rfl 22 ti _ 1 24 Try.underlying24 ht1 ht2 ht3 ht4 rfl (by decide) _ _ _ rfl (HO2.out.kept (growB _)) ⟨w2.heap.size, 0, none⟩ 1 1 [.slice ra rl rc] rfl rfl (newsL (.slice ra rl rc) rfl) (by intro u hu; rw [List.mem_singleton.1 hu]; exact HOne.out) (by unfold maxLen; have := HLs.out.1; omega) (by have := HLs.out.1; omega) ?_))
      intro v6 w6 hO6 _
      have HS6 : Hid (SpS w v6 (vs ++ [.slice ra rl rc]) (spP m (k + 1)) w6) := by
        refine ⟨by rw [List.length_append, HVl.out, HLs.out.2]; rfl, ?_, fun u hu => ?_⟩
        · rw [HLs.out.2, HSp.out, pcR_append _ _ _ _ (by rw [HVl.out, HJ.out])]
          exact hO6.perm (List.Perm.cons _ (List.perm_append_comm (l₁ := pcR vs (spP m k)) (l₂ := [Rw.by 5 (.slice ra rl rc) q])))
        · rcases List.mem_append.1 hu with hu | hu
          · exact HVo.out u hu
          · rw [List.mem_singleton.1 hu]; exact HOne.out
      clear hO6 HO2
      go_wp2_with (refine wpList_val19 rfl (HT.out _ _ rfl rfl rfl) ?_)
      go_wp2
      go_roundw
      case rel => exact ⟨k + 1, n - s, ab2, cb - s, vs ++ [.slice ra rl rc], rfl, HNk2, HCb2, HRk2, HS6⟩
      case measure => show lenV (.slice ab2 (n - s) (cb - s)) < lenV (.slice ab n cb); simp only [lenV]; have := HSz.out.2; omega
    · have hn0 : n = 0 := by omega
      subst hn0
      have hk : k = K := by
        have h1 := HNk.out
        have h2 := HK.out
        omega
      have HSF : Hid (SpS w u4 vs (spP m K) wr) := by show SpS _ _ _ _ _; rw [← hk]; exact HS.out
      clear hk HS HNk HRk
      go_wp2
      go_ret2
      exact ⟨_, _, rfl, HSF.out⟩
end Go.Proofs.Ytkljklfejaojaaa
