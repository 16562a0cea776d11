/- What a block and a stream are: contracts of package chacha, fourth part. -/
import Derived.Test.YtliiofjcghdjoaaDoorC07c
import Derived.Test.YtliiofjcghdjoaaDoorRef07c
import Derived.Test.YtliiofjcghdjoaaDoorBase
namespace Go.Proofs.YtliiofjcghdjoaaDoor
open Go.ChangeShapes Go.WideShapes Go.ChangeAt Go.RowKit
set_option linter.unusedSimpArgs false
set_option linter.unusedVariables false

/-- A state's block. -/
def bkS (l : List Nat) : List UInt8 := wB (fun i => ((qDbl l 10).getD i 0 + l.getD i 0) % 4294967296) 16
theorem bkS_bkL (k : List UInt8) (c : Nat) (n : List UInt8) : bkS (bkW k c n) = bkL k c n := rfl

set_option maxRecDepth 100000 in
set_option maxHeartbeats 4000000 in
theorem sblock_any (A : Array Value) (l : List Nat) (hl : W16 l) (hA : A = ((nI l).map (Value.int .u32)).toArray) (w : World) (hT : PlT w) :
    Calls Tryd.prog 67 #[.agg A] w fun e w' => ∃ r, e = .returned r ∧ New 5 w r (bkS l) w' := by
  obtain ⟨ti, hti, hz0, hz1, hz2⟩ := info_parts info5
  have HT : Hid (PlT w) := hT
  have HW : Hid (W16 l) := hl
  go_enter Tryd.func67, Tryd.ntmps67
  go_wp2_with (refine wpList_box_row (k := .u32) rfl 112 _ rfl (nI l) (by rw [← hA]; rfl) hl.ne (wdMax hl) ?_)
  intro w1 r1 b1 s1
  rw [hl.len] at r1
  have n1 : w.heap.size < w1.heap.size := by have := s1.out; omega
  clear hT hA
  go_wp2_with (refine wpList_load_row rfl 112 _ rfl rfl r1 _ Tryd.underlying112 rfl (wdInfo hl) ?_)
  refine (mixed_any _ l hl rfl _ (HT.out.kept b1)).mono ?_
  rintro e w2 ⟨rfl, b2⟩
  have hV : W16 (qDbl l 10) := qDbl_ok hl 10
  have HF : Hid (bkS l = wB (fun i => ((qDbl l 10).getD i 0 + l.getD i 0) % 4294967296) 16) := by show _ = _; rfl
  generalize qDbl l 10 = V at hV HF ⊢
  replace r1 := r1.kept b2
  have hbw := stepB b1 b2
  have n2 := b2.size
  clear b1 b2 s1
  go_wp2_with (refine wpList_alloc_row (k := .u32) rfl 112 rfl (nI z16) (alloc_wd _) z16_ok.ne (wdMax z16_ok) ?_)
  intro w3 r3 b3 s3
  rw [z16_ok.len] at r3
  replace r1 := r1.kept b3
  replace hbw := stepB hbw b3
  clear b3 s3
  go_wp2_with (refine wpList_store_row rfl 112 _ _ rfl (nI V) rfl rfl r3 (by rw [z16_ok.len, hV.len]) (wdInfo z16_ok) ?_)
  intro w4 r4 hw4
  replace r1 := r1.wrote hw4 (by omega)
  replace hbw := hw4.below _ _ (by omega) hbw
  clear r3 hw4
  have hcv : ∀ j, j < 16 → w4.cell? ⟨w2.heap.size, j, none⟩ = some (.int .u32 ((V.getD j 0 : Nat) : Int)) := fun j hj => by
    have := r4.cell (j := j) (by rw [hV.len]; exact hj)
    rw [nI_get] at this
    exact this
  have hcw : ∀ j, j < 16 → w4.cell? ⟨w.heap.size, j, none⟩ = some (.int .u32 ((l.getD j 0 : Nat) : Int)) := fun j hj => by
    have := r1.cell (j := j) (by rw [hl.len]; exact hj)
    rw [nI_get] at this
    exact this
  have HCV : Hid _ := hcv
  have HCW : Hid _ := hcw
  have HV : Hid (W16 V) := hV
  clear hcv hcw r1 r4 hl hV
  go_wp2_with (at_make; go_must (refine wpList_make_own _ rfl _ _ 40 rfl w4.heap.size 5 ti _ 1 Tryd.underlying40 hti hz0 hz1 _ _ _ 64 rfl rfl rfl (by rw [hz2]; omega) (by unfold maxLen; omega) (Nat.le_refl _) ?_))
  intro w5 hown hgr
  have hN0 : New 5 w4 _ (wB (fun i => (V.getD i 0 + l.getD i 0) % 4294967296) 0) w5 := ⟨hown, (Below.refl _ _).grown hgr (Nat.le_refl _) (by simp)⟩
  clear hown hgr
  go_wp2
  go_loopw [4, 9] (fun v iv wx => ∃ i : Nat, i ≤ 16 ∧ iv = .int .i64 (i : Int) ∧ New 5 w4 v (wB (fun i => (V.getD i 0 + l.getD i 0) % 4294967296) i) wx) (fun _ iv _ => 16 - (intOf iv).toNat)
  case atStart => exact ⟨0, by omega, rfl, hN0⟩
  case round =>
    obtain ⟨i, hi, rfl, hN⟩ := hrel
    clear hN0
    by_cases hlt : i < 16
    · have hd : decide ((i : Int) < 16) = true := decide_eq_true (by omega)
      have hiI : (i : Int) < 16 := by omega
      have cv1 := HCV.out i hlt
      have cw1 := HCW.out i hlt
      have b1 := HV.out.get i
      have b2 := HW.out.get i
      obtain ⟨z, hz⟩ : ∃ z : Nat, z = (V.getD i 0 + l.getD i 0) % 4294967296 := ⟨_, rfl⟩
      have HNx : Hid (wB (fun i => (V.getD i 0 + l.getD i 0) % 4294967296) i ++ (List.range 4).map (stB z) = wB (fun i => (V.getD i 0 + l.getD i 0) % 4294967296) (i + 1)) := by
        show _ = _
        rw [hz]
        rfl
      have HLn : Hid ((wB (fun i => (V.getD i 0 + l.getD i 0) % 4294967296) i).length ≤ 100) := by
        show _ ≤ _
        rw [wB_length]
        omega
      generalize wB (fun i => (V.getD i 0 + l.getD i 0) % 4294967296) i = L0 at hN HNx HLn
      obtain ⟨L1, hL1⟩ : ∃ L : List UInt8, L = wB (fun i => (V.getD i 0 + l.getD i 0) % 4294967296) (i + 1) := ⟨_, rfl⟩
      rw [← hL1] at HNx
      have HL1 : Hid _ := hL1
      clear hL1
      generalize V.getD i 0 = p at cv1 b1 hz
      generalize l.getD i 0 = q at cw1 b2 hz
      have e1 : IntKind.u32.wrap ((p : Int) + (q : Int)) = (z : Int) := by rw [IntKind.wrap_u32']; omega
      have e2 : ((p : Int) + (q : Int)) % 4294967296 = (z : Int) := by omega
      have e3 : IntKind.u64.wrap (z : Int) = (z : Int) := by rw [IntKind.wrap_u64]; omega
      obtain ⟨zs, hzs⟩ : ∃ zs : List UInt8, zs = (List.range 4).map (stB z) := ⟨_, rfl⟩
      have hzl4 : zs.length = 4 := by rw [hzs]; simp
      rw [← hzs] at HNx
      have HZS : Hid _ := hzs
      have HZ4 : Hid _ := hzl4
      clear hz hzs hzl4
      go_wp2_with fail
      refine wpB_begin hN.2 (by kernel_rfl) ?_
      refine bU_ (Below.drew hN.2) 0 rfl ⟨_, by intro W hW; go_simp <;> with_reducible rfl, ?_⟩
      try simp only [Act.put, pA_, pB_, pC_]
      refine bU_ (Below.drew hN.2) 1 rfl ⟨_, by intro W hW; go_simp <;> with_reducible rfl, ?_⟩
      try simp only [Act.put, pA_, pB_, pC_]
      refine bU_ (Below.drew hN.2) 2 rfl ⟨_, by intro W hW; go_simp <;> with_reducible rfl, ?_⟩
      try simp only [Act.put, pA_, pB_, pC_]
      refine bU_ (Below.drew hN.2) 3 rfl ⟨_, by intro W hW; have hcW := cellK0 cv1 hW; go_simp <;> with_reducible rfl, ?_⟩
      try simp only [Act.put, pA_, pB_, pC_]
      refine bU_ (Below.drew hN.2) 4 rfl ⟨_, by intro W hW; go_simp <;> with_reducible rfl, ?_⟩
      try simp only [Act.put, pA_, pB_, pC_]
      refine bU_ (Below.drew hN.2) 5 rfl ⟨_, by intro W hW; go_simp <;> with_reducible rfl, ?_⟩
      try simp only [Act.put, pA_, pB_, pC_]
      refine bU_ (Below.drew hN.2) 6 rfl ⟨_, by intro W hW; have hcW := cellK0 cw1 hW; go_simp <;> with_reducible rfl, ?_⟩
      try simp only [Act.put, pA_, pB_, pC_]
      refine bU_ (Below.drew hN.2) 7 rfl ⟨_, by intro W hW; go_simp <;> with_reducible rfl, ?_⟩
      try simp only [Act.put, pA_, pB_, pC_]
      refine bU_ (Below.drew hN.2) 8 rfl ⟨_, by intro W hW; go_simp <;> with_reducible rfl, ?_⟩
      try simp only [Act.put, pA_, pB_, pC_]
      refine bD_ 9 fun K hK => ?_
      go_simp
      refine (store_k z 4 4 (by omega) (.inr (.inl ⟨by omega, by omega, rfl⟩)) _).mono ?_
      rintro e w5 ⟨v5, rfl, hN5⟩
      have hR5 := hN5.rd
      rw [← HZS.out] at hR5
      have hN6 := hN.drew.kept hN5.2
      refine hK.out _ _ hN6.2 ?_
      clear hK K
      try simp only [Act.put, pA_, pB_, pC_]
      refine bD_ 10 fun K hK => ?_
      refine wp_append_new (w := w4) _ _ 40 (by rfl) 5 Tryd.underlying40 info5 _ _ (by rfl) hN6 _ _ (by rfl) hR5 (by have := HLn.out; rw [HZ4.out]; omega) ?_
      intro v7 w7 hN7 _
      rw [HNx.out] at hN7
      refine hK.out _ _ hN7.2 ?_
      clear hK K
      try simp only [Act.put, pA_, pB_, pC_]
      refine bU_ (hN7.2) 11 rfl ⟨_, by intro W hW; go_simp <;> with_reducible rfl, ?_⟩
      try simp only [Act.put, pA_, pB_, pC_]
      refine wpB_done (by kernel_rfl) ?_
      rw [HL1.out] at hN7
      clear hN hN5 hN6 hR5 cv1 cw1
      go_wp2
      go_roundw
      case rel => exact ⟨i + 1, by omega, by go_num, hN7⟩
      case measure => simp [intOf] <;> omega
    · have hie : i = 16 := by omega
      have hd : decide ((i : Int) < 16) = false := decide_eq_false (by omega)
      have hiI : (16 : Int) ≤ (i : Int) := by omega
      rw [hie, ← HF.out] at hN
      clear hie
      go_wp2
      go_ret
      exact ⟨_, rfl, hN.from hbw⟩

set_option maxRecDepth 100000 in
set_option maxHeartbeats 2000000 in
theorem block_arg (vk vn : Value) (k n : List UInt8) (C : Int) (w : World) (hk : Rd w vk k) (hn : Rd w vn n) (h : ¬ (k.length = 32 ∧ n.length = 12)) :
    Calls Tryd.prog 68 #[vk, .int .u32 C, vn] w fun e w' => e = .returned (.slice none 0 0) ∧ w' = w := by
  have hd : decide (k.length = 32 ∧ n.length = 12) = false := decide_eq_false h
  have HD : Hid _ := hd
  have HK : Hid _ := hk
  have HN : Hid _ := hn
  clear hd h hk hn
  go_enter Tryd.func68, Tryd.ntmps68
  go_wp2_with fail
  refine (fit_any _ _ k n _ HK.out HN.out).mono ?_
  rintro e w2 ⟨rfl, rfl⟩
  rw [HD.out]
  go_wp2
  go_ret
  exact ⟨rfl, rfl⟩

set_option maxRecDepth 100000 in
set_option maxHeartbeats 2000000 in
theorem block_any (vk vn : Value) (k n : List UInt8) (c : Nat) (C : Int) (hC : C = (c : Int)) (hc : c < 4294967296) (w : World) (hT : PlT w) (hk : Rd w vk k) (hn : Rd w vn n) (hk32 : k.length = 32) (hn12 : n.length = 12) :
    Calls Tryd.prog 68 #[vk, .int .u32 C, vn] w fun e w' => ∃ r, e = .returned r ∧ New 5 w r (bkL k c n) w' := by
  subst hC
  have HD : Hid (decide (k.length = 32 ∧ n.length = 12) = true) := decide_eq_true ⟨hk32, hn12⟩
  have HK : Hid _ := hk
  have HN : Hid _ := hn
  have H1 : Hid _ := hk32
  have H2 : Hid _ := hn12
  have HT : Hid (PlT w) := hT
  have HC : Hid _ := hc
  clear hk hn hk32 hn12 hT hc
  go_enter Tryd.func68, Tryd.ntmps68
  go_wp2_with fail
  refine (fit_any _ _ k n _ HK.out HN.out).mono ?_
  rintro e w2 ⟨rfl, rfl⟩
  rw [HD.out]
  go_wp2_with fail
  refine (start_any _ _ k n c _ rfl HC.out _ HK.out HN.out H1.out H2.out).mono ?_
  rintro e w2 ⟨rfl, b2⟩
  go_wp2_with fail
  refine (sblock_any _ (bkW k c n) (bkW_ok k c n) rfl _ (PlT.kept HT.out b2)).mono ?_
  rintro e w3 ⟨r, rfl, hN⟩
  rw [bkS_bkL] at hN
  go_wp2
  go_ret
  exact ⟨_, rfl, hN.from b2⟩

/-! ### Streams -/
def rowLen : Value → Nat
  | .slice _ n _ => n
  | _ => 0
theorem smP_block (key : List UInt8) (c : Nat) (nonce b : List UInt8) (j : Nat) (h : 64 * j ≤ b.length) :
    smP key c nonce b (64 * j) ++ xorL (b.drop (64 * j)) (bkL key (c + j) nonce) = smP key c nonce b (min (64 * (j + 1)) b.length) := by
  refine ext_getD (by rw [List.length_append, smP_length, smP_length, xorL_length, List.length_drop, bkL_length]; omega) fun i hi => ?_
  rw [List.length_append, smP_length, xorL_length, List.length_drop, bkL_length] at hi
  rw [getD_append, smP_length]
  have hm : i < min (64 * (j + 1)) b.length := by omega
  have e2 : (smP key c nonce b (min (64 * (j + 1)) b.length)).getD i 0 = b.getD i 0 ^^^ ksB key c nonce i := by
    unfold smP
    simp only [List.getD_eq_getElem?_getD, List.getElem?_map]
    rw [List.getElem?_range hm]
    simp
  rw [e2]
  split
  · rename_i h3
    unfold smP
    simp only [List.getD_eq_getElem?_getD, List.getElem?_map]
    rw [List.getElem?_range h3]
    simp
  · rename_i h3
    have e3 : (xorL (b.drop (64 * j)) (bkL key (c + j) nonce)).getD (i - 64 * j) 0 = (b.drop (64 * j)).getD (i - 64 * j) 0 ^^^ (bkL key (c + j) nonce).getD (i - 64 * j) 0 := by
      unfold xorL
      have hx : i - 64 * j < min (b.drop (64 * j)).length (bkL key (c + j) nonce).length := by rw [List.length_drop, bkL_length]; omega
      simp only [List.getD_eq_getElem?_getD, List.getElem?_map]
      rw [List.getElem?_range hx]
      simp
    have a1 : (b.drop (64 * j)).getD (i - 64 * j) 0 = b.getD i 0 := by
      have : 64 * j + (i - 64 * j) = i := by omega
      simp [this]
    have a2 : (bkL key (c + j) nonce).getD (i - 64 * j) 0 = ksB key c nonce i := by
      unfold ksB
      rw [show i / 64 = j by omega, show i % 64 = i - 64 * j by omega]
    rw [e3, a1, a2]
theorem bkW_next (k : List UInt8) (c : Nat) (n : List UInt8) : (bkW k c n).set 12 ((c + 1) % 4294967296) = bkW k (c + 1) n := rfl
theorem bkW_count (k : List UInt8) (c : Nat) (n : List UInt8) : (bkW k c n).getD 12 0 = c % 4294967296 := rfl

set_option maxRecDepth 100000 in
set_option maxHeartbeats 2000000 in
theorem stream_arg (vk vn vb : Value) (k n : List UInt8) (C : Int) (w : World) (hk : Rd w vk k) (hn : Rd w vn n) (h : ¬ (k.length = 32 ∧ n.length = 12)) :
    Calls Tryd.prog 56 #[vk, .int .u32 C, vn, vb] w fun e w' => e = .returned (.slice none 0 0) ∧ w' = w := by
  have hd : decide (k.length = 32 ∧ n.length = 12) = false := decide_eq_false h
  have HD : Hid _ := hd
  have HK : Hid _ := hk
  have HN : Hid _ := hn
  clear hd h hk hn
  go_enter Tryd.func56, Tryd.ntmps56
  go_wp2_with fail
  refine (fit_any _ _ k n _ HK.out HN.out).mono ?_
  rintro e w2 ⟨rfl, rfl⟩
  rw [HD.out]
  go_wp2
  go_ret
  exact ⟨rfl, rfl⟩

set_option maxRecDepth 100000 in
set_option maxHeartbeats 4000000 in
theorem stream_any (vk vn vb : Value) (k n b : List UInt8) (c : Nat) (C : Int) (hC : C = (c : Int)) (hc : c < 4294967296) (w : World) (hT : PlT w) (hk : Rd w vk k) (hn : Rd w vn n) (hb : Rd w vb b) (hk32 : k.length = 32) (hn12 : n.length = 12) (hbl : b.length ≤ 100000000) :
    Calls Tryd.prog 56 #[vk, .int .u32 C, vn, vb] w fun e w' => ∃ r, e = .returned r ∧ New 5 w r (smL k c n b) w' := by
  subst hC
  obtain ⟨ti, hti, hz0, hz1, hz2⟩ := info_parts info5
  have HD : Hid (decide (k.length = 32 ∧ n.length = 12) = true) := decide_eq_true ⟨hk32, hn12⟩
  have HK : Hid _ := hk
  have HN : Hid _ := hn
  have H1 : Hid _ := hk32
  have H2 : Hid _ := hn12
  have HT : Hid (PlT w) := hT
  have HC : Hid _ := hc
  obtain ⟨ab, cb, rfl, hcb, hmb, -, -⟩ := id hb
  obtain ⟨L, hL⟩ : ∃ L : Nat, L = b.length := ⟨_, rfl⟩
  rw [← hL] at hb hbl hcb ⊢
  have HB : Hid (Rd w (.slice ab L cb) b) := hb
  have HL : Hid _ := hL
  unfold maxLen at hmb
  clear hk hn hk32 hn12 hT hc hb hL
  go_enter Tryd.func56, Tryd.ntmps56
  go_wp2_with fail
  refine (fit_any _ _ k n _ HK.out HN.out).mono ?_
  rintro e w ⟨rfl, rfl⟩
  rw [HD.out]
  go_wp2_with fail
  refine (start_any _ _ k n c _ rfl HC.out _ HK.out HN.out H1.out H2.out).mono ?_
  rintro e w2 ⟨rfl, b2⟩
  have h0 : W16 (bkW k c n) := bkW_ok k c n
  obtain ⟨B0, hB0⟩ : ∃ l : List Nat, l = bkW k c n := ⟨_, rfl⟩
  rw [← hB0] at h0 ⊢
  have HB0 : Hid _ := hB0
  clear hB0
  go_wp2_with (first | refine wpList_alloc_row (k := .u32) rfl 112 rfl (nI z16) (alloc_wd _) z16_ok.ne (wdMax z16_ok) ?_)
  intro w3 r3 b3 s3
  rw [z16_ok.len] at r3
  have hbw := stepB b2 b3
  have n2 := b2.size
  have n3 : w2.heap.size < w3.heap.size := by have := s3.out; omega
  clear b2 b3 s3
  go_wp2_with (first | (at_make; fail) | refine wpList_store_row rfl 112 _ _ rfl (nI B0) rfl rfl r3 (by rw [z16_ok.len, h0.len]) (wdInfo z16_ok) ?_)
  intro w4 r4 hw4
  replace hbw := hw4.below _ _ (by omega) hbw
  have n4 : w2.heap.size < w4.heap.size := by have := hw4.size; omega
  clear r3 hw4
  go_wp2_with (at_make; go_must (refine wpList_make_own _ rfl _ _ 40 rfl w4.heap.size 5 ti _ 1 Tryd.underlying40 hti hz0 hz1 _ _ _ L rfl rfl rfl (by rw [hz2]; omega) (by unfold maxLen; omega) (Nat.le_refl _) ?_))
  intro w5 hown hgr
  have hO5 : w5.ownsRow w4.heap.size 5 1 (.slice (some ⟨w4.heap.size, 0, none⟩) 0 L) (smP k c n b 0).length ((smP k c n b 0).map bv) := hown
  have b5 : Below w4.heap.size w4 w5 := (Below.refl _ _).grown hgr (Nat.le_refl _) (by simp)
  have r5 := r4.kept b5
  rw [HB0.out] at r5
  have n5 := b5.size
  have hbw5 := stepB hbw b5
  clear hown hgr r4 hbw b5
  have HZ : Hid (64 * 0 = min (64 * 0) L) := by show _ = _; omega
  go_wp2
  go_loopw [10] (fun v wx => ∃ j : Nat, wx.ownsRow w4.heap.size 5 1 v (smP k c n b (min (64 * j) L)).length ((smP k c n b (min (64 * j) L)).map bv) ∧ RowAt .u32 112 w2.heap.size 16 (nI (bkW k (c + j) n)) wx ∧ Below w.heap.size w wx ∧ w4.heap.size ≤ wx.heap.size) (fun v _ => L - rowLen v)
  case atStart => exact ⟨0, by rw [← HZ.out]; exact hO5, r5, hbw5, n5⟩
  case round =>
    obtain ⟨j, hO, rs, hbx, nx⟩ := hrel
    clear hO5 r5 hbw5 n5 HZ h0
    have hRo := Rd.of_row hO
    obtain ⟨ao, co, rfl, -, hmo, -, -⟩ := id hRo
    unfold maxLen at hmo
    obtain ⟨i, hi⟩ : ∃ i : Nat, i = min (64 * j) L := ⟨_, rfl⟩
    rw [← hi, smP_length] at hO ⊢
    have hO1 : wr.ownsRow w4.heap.size 5 1 (.slice ao i co) (smP k c n b i).length ((smP k c n b i).map bv) := by
      rw [smP_length]
      exact hO
    clear hO hRo
    by_cases hlt : i < L
    · have hd : decide ((i : Int) < (L : Int)) = true := decide_eq_true (by omega)
      have hiI : (i : Int) < (L : Int) := by omega
      have hij : i = 64 * j := by omega
      obtain ⟨gb, ob, c', ev, -, -, -⟩ := HB.out.cellAt (i := 0) (by have := HL.out; omega)
      simp only [Value.slice.injEq] at ev
      obtain ⟨rfl, -, rfl⟩ := ev
      have hsub := (Rd.kept HB.out hbx).sub i L (by omega) (Nat.le_refl _)
      rw [List.take_of_length_le (by rw [List.length_drop, ← HL.out]; omega)] at hsub
      have hSW : W16 (bkW k (c + j) n) := bkW_ok k (c + j) n
      have HNx : Hid (smP k c n b i ++ xorL (b.drop i) (bkS (bkW k (c + j) n)) = smP k c n b (min (64 * (j + 1)) L)) := by
        show _ = _
        rw [bkS_bkL, hij, smP_block _ _ _ _ _ (by rw [← HL.out]; omega), HL.out]
      obtain ⟨x, hx⟩ : ∃ x : Nat, x = (bkW k (c + j) n).getD 12 0 := ⟨_, rfl⟩
      obtain ⟨y, hy⟩ : ∃ y : Nat, y = (c + (j + 1)) % 4294967296 := ⟨_, rfl⟩
      have hxy : ((x : Int) + 1) % 4294967296 = (y : Int) := by
        rw [bkW_count] at hx
        omega
      have hxw : IntKind.u32.wrap ((x : Int) + 1) = (y : Int) := by rw [IntKind.wrap_u32']; exact hxy
      have HSt : Hid (nI ((bkW k (c + j) n).set 12 y) = nI (bkW k (c + (j + 1)) n)) := by
        show _ = _
        rw [hy]
        rfl
      have hlS : (nI (bkW k (c + j) n)).length = 16 := hSW.len
      have HlS : Hid _ := hlS
      have HX : Hid _ := hx
      have HI : Hid _ := hi
      have HIJ : Hid _ := hij
      have HLb : Hid ((b.drop i).length ≤ 100000000) := by
        show _ ≤ _
        rw [List.length_drop, ← HL.out]
        omega
      have HLp : Hid ((smP k c n b i).length + (xorL (b.drop i) (bkS (bkW k (c + j) n))).length ≤ 200000000) := by
        show _ ≤ _
        rw [smP_length, xorL_length, List.length_drop, ← HL.out]
        omega
      generalize bkW k (c + j) n = S at rs hSW HNx HSt HlS HX HLp
      have ym1 : ¬ cb = i := by omega
      have ym2 : i ≤ L := by omega
      have ym3 : (i : Int) ≤ (L : Int) := by omega
      have ym4 : (L : Int) ≤ (cb : Int) := by omega
      clear hlS hx hy hi hij
      go_wp2_with fail
      have hB : Below wr.heap.size wr wr.drew := (Below.refl _ _).drew
      have hS : RowAt .u32 112 w2.heap.size 16 (nI S) wr.drew := rs.drew
      refine wpS_begin (fun W => RowAt .u32 112 w2.heap.size 16 (nI S) W) (by kernel_rfl) ?_
      refine sU_ hS 0 rfl ⟨_, by intro W hW; go_simp <;> with_reducible rfl, ?_⟩
      try simp only [Act.put, pA_, pB_, pC_]
      refine sU_ hS 1 rfl ⟨_, by intro W hW; go_simp <;> with_reducible rfl, ?_⟩
      try simp only [Act.put, pA_, pB_, pC_]
      refine sU_ hS 2 rfl ⟨_, by intro W hW; go_simp <;> with_reducible rfl, ?_⟩
      try simp only [Act.put, pA_, pB_, pC_]
      refine sU_ hS 3 rfl ⟨_, by intro W hW; go_simp <;> with_reducible rfl, ?_⟩
      try simp only [Act.put, pA_, pB_, pC_]
      refine sU_ hS 4 rfl ⟨_, by intro W hW; go_simp <;> with_reducible rfl, ?_⟩
      try simp only [Act.put, pA_, pB_, pC_]
      refine sU_ hS 5 rfl ⟨_, by intro W hW; refine Eq.trans (exec_load_row' 112 _ (by rfl) (by rfl) hW (Below.refl _ _) _ Tryd.underlying112 rfl (wdInfo hSW)) ?_; with_reducible rfl, ?_⟩
      try simp only [Act.put, pA_, pB_, pC_]
      refine sD_ 6 fun K hK => ?_
      go_simp
      refine (sblock_any _ S hSW rfl _ (PlT.kept HT.out (stepB hbx (Below.refl _ _).drew))).mono ?_
      rintro e w6 ⟨vB, rfl, hN6⟩
      replace hB := stepB hB hN6.2
      replace hS := hS.kept hN6.2
      refine hK.out _ _ hS ?_
      clear hK K
      try simp only [Act.put, pA_, pB_, pC_]
      refine sD_ 7 fun K hK => ?_
      go_simp
      refine (xor_any _ _ _ _ _ (hsub.kept hB) hN6.rd (by have := HLb.out; omega)).mono ?_
      rintro e w7 ⟨vX, rfl, hN7⟩
      replace hB := stepB hB hN7.2
      replace hS := hS.kept hN7.2
      have hO7 := ownsRow_below hO1 hB
      have hn7 := hB.size
      have hlow : ∀ g, some g = (Value.slice ao i co).ownBlock → w4.heap.size ≤ g := fun g e => (hO7.lt g e.symm).1
      refine hK.out _ _ hS ?_
      clear hK K
      try simp only [Act.put, pA_, pB_, pC_]
      refine sD_ 8 fun K hK => ?_
      refine wp_append_base (base := w4.heap.size) _ _ 40 (by rfl) 5 Tryd.underlying40 info5 _ _ (by rfl) hO7 (by omega) _ _ (by rfl) hN7.rd (by have := HLp.out; omega) ?_
      intro v8 w8 hO8 hg8 _
      rw [HNx.out] at hO8
      replace hS := hS.chg (Chg.of_grown hg8) (fun e => by have := hlow _ e; omega)
      refine hK.out _ _ hS ?_
      clear hK K
      try simp only [Act.put, pA_, pB_, pC_]
      refine sU_ hS 9 rfl ⟨_, by intro W hW; go_simp <;> with_reducible rfl, ?_⟩
      try simp only [Act.put, pA_, pB_, pC_]
      refine wpS_done (by kernel_rfl) ?_
      have rs8 := hS
      have hb8 := Chg.below (stepB hbx hB) (Chg.of_grown hg8) (by omega) (fun g _ e => by have := hlow _ e; omega)
      have n8 : w4.heap.size ≤ w8.heap.size := by have := hg8.size; omega
      have hR8 := Rd.of_row hO8
      obtain ⟨a8, c8, rfl, -, -, -, -⟩ := id hR8
      rw [smP_length] at hO8 ⊢
      have hc12 := rs8.cell (j := 12) (by rw [HlS.out]; decide)
      rw [nI_get, ← HX.out] at hc12
      have hf12 := rs8.free 12
      have hw9 := Wrote.set w2.heap.size 12 w8 (.int .u32 (y : Int))
      have rs9 := rs8.set 12 (y : Int)
      rw [nI_set, HSt.out] at rs9
      have hO9 := own_chg hO8 (Chg.of_wrote hw9) (fun g e1 e2 => by have := (hO8.lt g e1).1; omega)
      have hb9 := hw9.below _ _ (by omega) hb8
      have n9 := hw9.size
      have R9 : Hid _ := rs9
      have O9 : Hid _ := hO9
      have B9 : Hid _ := hb9
      have N9 : Hid _ := n9
      clear hO1 rs hbx hsub hN6 hN7 hO7 hB hS hlow hg8 rs8 hb8 hR8 hO8 rs9 hO9 hb9 n9 hw9
      go_wp2
      go_roundw
      case rel => exact ⟨j + 1, by rw [smP_length]; exact O9.out, R9.out, B9.out, by have := N9.out; omega⟩
      case measure =>
        have h1 := HI.out
        have h2 := HIJ.out
        simp [rowLen]
        omega
    · have hd : decide ((i : Int) < (L : Int)) = false := decide_eq_false (by omega)
      have hiI : (L : Int) ≤ (i : Int) := by omega
      have hiL : i = L := by omega
      have hN : New 5 w (.slice ao i co) (smL k c n b) wr := by
        refine ⟨own_mono (base := w4.heap.size) ?_ (by omega), hbx⟩
        rw [← smP_all, ← HL.out, ← hiL]
        exact hO1
      clear hiL hO1 rs hbx hi
      go_wp2
      go_ret
      exact ⟨_, rfl, hN⟩
end Go.Proofs.YtliiofjcghdjoaaDoor
