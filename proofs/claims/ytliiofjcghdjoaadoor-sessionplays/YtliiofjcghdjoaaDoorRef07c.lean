/- What the document's own stream is: a contract of the reference of layer 7. -/
import Derived.Test.YtliiofjcghdjoaaDoorRef07b
namespace Go.Proofs.YtliiofjcghdjoaaDoor
open Go.ChangeShapes Go.WideShapes Go.ChangeAt Go.RowKit
set_option linter.unusedSimpArgs false
set_option linter.unusedVariables false

theorem stream_facts (i c : Nat) (hi : i < 1000000000) (hc : c < 4294967296) : ∃ q r d : Nat, q = i / 64 ∧ r = i % 64 ∧ d = c + q ∧ ((i : Nat) : Int).tdiv 64 = (q : Int) ∧ IntKind.i64.wrap (q : Int) = (q : Int) ∧ IntKind.u64.wrap (q : Int) = (q : Int) ∧ IntKind.u64.wrap ((c : Int) + (q : Int)) = (d : Int) ∧
    ((i : Nat) : Int).tmod 64 = (r : Int) ∧ IntKind.i64.wrap (r : Int) = (r : Int) ∧ r < 64 ∧ (r : Int) < 64 ∧ d < 18446744073709551616 := by
  refine ⟨i / 64, i % 64, c + i / 64, rfl, rfl, rfl, ?_, ?_, ?_, ?_, ?_, ?_, by omega, by omega, by omega⟩
  · rw [Int.tdiv_eq_ediv_of_nonneg (by omega)]; omega
  · exact IntWalk.i64_in _ (by omega)
  · rw [IntKind.wrap_u64]; omega
  · rw [IntKind.wrap_u64]; omega
  · rw [Int.tmod_eq_emod_of_nonneg (by omega)]; omega
  · exact IntWalk.i64_in _ (by omega)
theorem Rd.cell0 {w : World} {b off n cap : Nat} {l : List UInt8} (h : Rd w (.slice (some ⟨b, off, none⟩) n cap) l) {i : Nat} (hi : i < l.length) : w.cell? ⟨b, off + i, none⟩ = some (.int .u8 ((l.getD i 0).toNat : Int)) := by
  obtain ⟨b', o', c', ev, -, hc, -⟩ := h.cellAt hi
  simp only [Value.slice.injEq, Option.some.injEq, Addr.mk.injEq, and_true] at ev
  obtain ⟨⟨rfl, rfl⟩, -, -⟩ := ev
  exact hc
/-- The first i bytes. -/
def smP (key : List UInt8) (c : Nat) (nonce b : List UInt8) (i : Nat) : List UInt8 := (List.range i).map fun j => b.getD j 0 ^^^ ksB key c nonce j
theorem smP_next (key : List UInt8) (c : Nat) (nonce b : List UInt8) (i : Nat) : smP key c nonce b i ++ [b.getD i 0 ^^^ ksB key c nonce i] = smP key c nonce b (i + 1) := by
  unfold smP
  rw [List.range_succ, List.map_append]
  rfl
theorem smP_length (key : List UInt8) (c : Nat) (nonce b : List UInt8) (i : Nat) : (smP key c nonce b i).length = i := by simp [smP]
theorem smP_all (key : List UInt8) (c : Nat) (nonce b : List UInt8) : smP key c nonce b b.length = smL key c nonce b := rfl

set_option maxRecDepth 100000 in
set_option maxHeartbeats 2000000 in
theorem streamR_arg (vk vn vb : Value) (k n b : List UInt8) (C : Int) (w : World) (hk : Rd w vk k) (hn : Rd w vn n) (h : ¬ (k.length = 32 ∧ n.length = 12)) :
    Calls Tryd.prog 50 #[vk, .int .u64 C, vn, vb] w fun e w' => e = .returned (.slice none 0 0) ∧ w' = w := by
  obtain ⟨ak, ck, rfl, -, hmk, -, -⟩ := id hk
  obtain ⟨an, cn, rfl, -, hmn, -, -⟩ := id hn
  unfold maxLen at hmk hmn
  by_cases h1 : k.length = 32
  case' pos =>
    have d1 : (((k.length : Nat) : Int) != 32) = false := by rw [h1]; rfl
    have d2 : (((n.length : Nat) : Int) != 12) = true := by
      simp only [bne_iff_ne, ne_eq]
      omega
  case' neg =>
    have d1 : (((k.length : Nat) : Int) != 32) = true := by
      simp only [bne_iff_ne, ne_eq]
      omega
  all_goals
    have H : Hid _ := h
    clear h h1
    go_enter Tryd.func50, Tryd.ntmps50
    go_wp2
    go_ret
    exact ⟨rfl, rfl⟩

set_option maxRecDepth 100000 in
set_option maxHeartbeats 4000000 in
theorem streamR_any (vk vn vb : Value) (k n b : List UInt8) (c : Nat) (C : Int) (hC : C = (c : Int)) (hc32 : c < 4294967296) (w : World) (hk : Rd w vk k) (hn : Rd w vn n) (hb : Rd w vb b) (hk32 : k.length = 32) (hn12 : n.length = 12) (hbl : b.length ≤ 100000000) :
    Calls Tryd.prog 50 #[vk, .int .u64 C, vn, vb] w fun e w' => ∃ r, e = .returned r ∧ New 5 w r (smL k c n b) w' := by
  subst hC
  obtain ⟨ak, ck, rfl, -, hmk, -, -⟩ := id hk
  obtain ⟨an, cn, rfl, -, hmn, -, -⟩ := id hn
  obtain ⟨ab, cb, rfl, -, hmb, -, -⟩ := id hb
  unfold maxLen at hmk hmn hmb
  have d1 : (((k.length : Nat) : Int) != 32) = false := by rw [hk32]; rfl
  have d2 : (((n.length : Nat) : Int) != 12) = false := by rw [hn12]; rfl
  have HKR : Hid (Rd w (.slice ak k.length ck) k) := hk
  have HNR : Hid (Rd w (.slice an n.length cn) n) := hn
  have HBR : Hid (Rd w (.slice ab b.length cb) b) := hb
  have HK : Hid (k.length = 32) := hk32
  have HN : Hid (n.length = 12) := hn12
  have hN0 : New 5 w (.slice none 0 0) (smP k c n b 0) w := New.start w
  clear hk hn hb hk32 hn12
  go_enter Tryd.func50, Tryd.ntmps50
  have hO0 : Own 5 w [(.slice none 0 0, smP k c n b 0), (.slice none 0 0, [])] w := (Own.start 5 w).nil.nil
  clear hN0
  go_wp2
  go_loopw [9, 10, 11] (fun ov lv iv wx => ∃ (i : Nat) (L : List UInt8), i ≤ b.length ∧ iv = .int .i64 (i : Int) ∧ Own 5 w [(ov, smP k c n b i), (lv, L)] wx ∧ Hid (i % 64 ≠ 0 → L = bkL k (c + i / 64) n)) (fun _ _ iv _ => b.length - (intOf iv).toNat)
  case atStart => exact ⟨0, [], by omega, rfl, hO0, fun h => absurd rfl h⟩
  case round =>
    obtain ⟨i, L, hi, rfl, hO, HLk⟩ := hrel
    clear hO0
    by_cases hlt : i < b.length
    · have hd : decide ((i : Int) < (b.length : Int)) = true := decide_eq_true (by omega)
      have hiI : (i : Int) < (b.length : Int) := by omega
      obtain ⟨q, r, d, hq, hr, hdq, f1, f2, f3, f4, f5, f6, hr64, hrI, hd64⟩ := stream_facts i c (by omega) hc32
      by_cases h0 : r = 0
      case' pos =>
        have hr0 : ((r : Int) == 0) = true := by rw [h0]; rfl
        have HDQ : Hid (bkL k d n = bkL k (c + i / 64) n) := by show _ = _; rw [hdq, hq]
        have HRQ : Hid (r = i % 64) := hr
        clear hq hr hdq h0
        go_wp2_with fail
        refine (blockR_any _ _ k n d _ rfl hd64 _ (HKR.out.kept hO.below) (HNR.out.kept hO.below) HK.out HN.out).mono ?_
        rintro e w5 ⟨v5, rfl, hN5⟩
        rw [HDQ.out] at hN5
        have hO5 := ((hO.new hN5).perm (List.reverse_perm _)).tail
        have hOr : Own 5 w [(u9, smP k c n b i), (v5, bkL k (c + i / 64) n)] w5 := hO5
        have hR5 := hOr.rd (v := v5) (l := bkL k (c + i / 64) n) (by simp)
        clear hN5 hO hO5 HLk hr0 HDQ
      case' neg =>
        have hr0 : ((r : Int) == 0) = false := by simp; omega
        have HDQ : Hid (L = bkL k (c + i / 64) n) := HLk.out (by rw [← hr]; exact h0)
        have HRQ : Hid (r = i % 64) := hr
        rw [HDQ.out] at hO
        have hOr : Own 5 w [(u9, smP k c n b i), (u10, bkL k (c + i / 64) n)] wr := hO
        have hR5 := hOr.rd (v := u10) (l := bkL k (c + i / 64) n) (by simp)
        clear hq hr hdq h0 hO HLk HDQ
      all_goals
        obtain ⟨gb, ob, cB, rfl, hcB, hcr, -⟩ := hR5.cellAt (i := r) (by rw [bkL_length]; exact hr64)
        obtain ⟨bb, bo, cbb, ev, -, hcb, -⟩ := HBR.out.cellAt (i := i) hlt
        simp only [Value.slice.injEq] at ev
        obtain ⟨rfl, -, rfl⟩ := ev
        rw [bkL_length] at hcB hR5 hOr ⊢
        have HNx : Hid _ := smP_next k c n b i
        have HKS : Hid (ksB k c n i = (bkL k (c + i / 64) n).getD r 0) := by show _ = _; unfold ksB; rw [HRQ.out]
        have HSL : Hid ((smP k c n b i).length ≤ 100000000) := by show _ ≤ _; rw [smP_length]; omega
        rw [HKS.out] at HNx
        have xx := byte_xor (b.getD i 0) ((bkL k (c + i / 64) n).getD r 0)
        have hbelow := hOr.below
        obtain ⟨BK, hBK⟩ : ∃ B : List UInt8, B = bkL k (c + i / 64) n := ⟨_, rfl⟩
        rw [← hBK] at hcr hOr hR5 HNx HKS xx
        obtain ⟨p, hp⟩ : ∃ p : UInt8, p = b.getD i 0 := ⟨_, rfl⟩
        rw [← hp] at hcb HNx xx
        obtain ⟨q2, hq2⟩ : ∃ p : UInt8, p = BK.getD r 0 := ⟨_, rfl⟩
        rw [← hq2] at hcr HNx xx
        obtain ⟨y, hy⟩ : ∃ y : UInt8, y = p ^^^ q2 := ⟨_, rfl⟩
        rw [← hy] at HNx xx
        have HBKL : Hid (BK.length = 64) := by show _ = _; rw [hBK]; exact bkL_length _ _ _
        have HQ2 : Hid _ := hq2
        have HBK : Hid _ := hBK
        clear hp hq2 hy hBK HKS
        rename World => wX
        have hS : Below w.heap.size w wX.drew ∧ wX.drew.cell? ⟨gb, ob + r, none⟩ = some (.int .u8 ((q2.toNat : Nat) : Int)) := ⟨hbelow.drew, hcr⟩
        have hb1 := growB (w := wX.drew) (.cells #[.int .u8 ((y.toNat : Nat) : Int)] 5)
        have hO6 := hOr.drew.kept hb1
        have r8 : Rd (wX.drew.alloc (.cells #[.int .u8 ((y.toNat : Nat) : Int)] 5)) (.slice (some ⟨wX.heap.size, 0, none⟩) 1 1) [y] := Rd.lit1 y rfl
        go_wp2_with fail
        refine wpS_begin (fun W => Below w.heap.size w W ∧ W.cell? ⟨gb, ob + r, none⟩ = some (.int .u8 ((q2.toNat : Nat) : Int))) (by kernel_rfl) ?_
        refine sU_ hS 0 rfl ⟨_, by intro W hW; go_simp <;> with_reducible rfl, ?_⟩
        try simp only [Act.put, pA_, pB_, pC_]
        refine sU_ hS 1 rfl ⟨_, by intro W hW; go_simp <;> with_reducible rfl, ?_⟩
        try simp only [Act.put, pA_, pB_, pC_]
        refine sU_ hS 2 rfl ⟨_, by intro W hW; go_simp <;> with_reducible rfl, ?_⟩
        try simp only [Act.put, pA_, pB_, pC_]
        refine sU_ hS 3 rfl ⟨_, by intro W hW; go_simp <;> with_reducible rfl, ?_⟩
        try simp only [Act.put, pA_, pB_, pC_]
        refine sU_ hS 4 rfl ⟨_, by intro W hW; have hcW := cellK0 hcb hW.1; go_simp <;> with_reducible rfl, ?_⟩
        try simp only [Act.put, pA_, pB_, pC_]
        refine sU_ hS 5 rfl ⟨_, by intro W hW; go_simp <;> with_reducible rfl, ?_⟩
        try simp only [Act.put, pA_, pB_, pC_]
        refine sU_ hS 6 rfl ⟨_, by intro W hW; go_simp <;> with_reducible rfl, ?_⟩
        try simp only [Act.put, pA_, pB_, pC_]
        refine sU_ hS 7 rfl ⟨_, by intro W hW; go_simp <;> with_reducible rfl, ?_⟩
        try simp only [Act.put, pA_, pB_, pC_]
        refine sU_ hS 8 rfl ⟨_, by intro W hW; go_simp <;> with_reducible rfl, ?_⟩
        try simp only [Act.put, pA_, pB_, pC_]
        refine sU_ hS 9 rfl ⟨_, by intro W hW; have hcW := hW.2; go_simp <;> with_reducible rfl, ?_⟩
        try simp only [Act.put, pA_, pB_, pC_]
        refine sU_ hS 10 rfl ⟨_, by intro W hW; go_simp <;> with_reducible rfl, ?_⟩
        try simp only [Act.put, pA_, pB_, pC_]
        refine sD_ 11 fun K hK => ?_
        replace hS := And.intro (stepB hS.1 hb1) (cellK0 hS.2 hb1)
        go_simp
        refine hK.out _ _ hS ?_
        clear hK K
        try simp only [Act.put, pA_, pB_, pC_]
        refine sD_ 12 fun K hK => ?_
        refine wp_append_base (base := w.heap.size) _ _ 40 (by rfl) 5 Tryd.underlying40 infoU8 _ _ (by rfl) (hO6.rows _ (List.mem_cons_self ..)) hO6.below.size _ _ (by rfl) r8 (by have := HSL.out; simp only [List.length_singleton]; omega) ?_
        intro v7 w7 q1 q2' q3
        have hO7 := hO6.append q1 q2' q3
        rw [HNx.out] at hO7
        have hR7 := hO7.rd (v := .slice (some ⟨gb, ob, none⟩) 64 cB) (l := BK) (by simp)
        have hc7 := hR7.cell0 (i := r) (by rw [HBKL.out]; exact hr64)
        rw [← HQ2.out] at hc7
        replace hS := And.intro hO7.below hc7
        clear q1 q2' q3
        refine hK.out _ _ hS ?_
        clear hK K
        try simp only [Act.put, pA_, pB_, pC_]
        refine sU_ hS 13 rfl ⟨_, by intro W hW; go_simp <;> with_reducible rfl, ?_⟩
        try simp only [Act.put, pA_, pB_, pC_]
        refine wpS_done (by kernel_rfl) ?_
        have HLN : Hid ((i + 1) % 64 ≠ 0 → BK = bkL k (c + (i + 1) / 64) n) := fun h => by
          rw [HBK.out]
          congr 1
          omega
        clear hS hO6 r8 hb1 hOr hR5 hbelow hcr hcb hR7 hc7
        go_wp2
        go_roundw
        case rel => exact ⟨i + 1, BK, by omega, by go_num, hO7, HLN⟩
        case measure => simp [intOf] <;> omega
    · have hie : i = b.length := by omega
      have hd : decide ((i : Int) < (b.length : Int)) = false := decide_eq_false (by omega)
      have hiI : (b.length : Int) ≤ (i : Int) := by omega
      have hNe : New 5 w u9 (smL k c n b) wr := by
        rw [← smP_all, ← hie]
        exact ⟨hO.rows _ (List.mem_cons_self ..), hO.below⟩
      clear hO hie
      go_wp2
      go_ret
      exact ⟨_, rfl, hNe⟩
end Go.Proofs.YtliiofjcghdjoaaDoor
