/- What the document's own code of bytes is: a contract of the reference of layer 8. -/
import Derived.Test.YtliiofjcghdjoaaDoorRef08b
import Derived.Test.YtliiofjcghdjoaaDoorRef08c
import Derived.Test.YtliiofjcghdjoaaDoorBase
namespace Go.Proofs.YtliiofjcghdjoaaDoor
open Go.ChangeShapes Go.WideShapes Go.ChangeAt Go.RowKit
set_option linter.unusedSimpArgs false
set_option linter.unusedVariables false

theorem Rd.cells8 {w : World} {v : Value} {l : List UInt8} (h : Rd w v l) (hl : 0 < l.length) : ∃ b off cap, v = .slice (some ⟨b, off, none⟩) l.length cap ∧ l.length ≤ cap ∧ b < w.heap.size ∧ ∀ i, i < l.length → w.cell? ⟨b, off + i, none⟩ = some (.int .u8 ((l.getD i 0).toNat : Int)) := by
  obtain ⟨b, off, cap, ev, h1, -, h2⟩ := h.cellAt hl
  refine ⟨b, off, cap, ev, h1, h2, fun i hi => ?_⟩
  obtain ⟨b', off', cap', ev', -, h3, -⟩ := h.cellAt hi
  rw [ev] at ev'
  simp only [Value.slice.injEq, Option.some.injEq, Addr.mk.injEq, and_true, true_and] at ev'
  obtain ⟨⟨rfl, rfl⟩, -⟩ := ev'
  exact h3
theorem zero18 : List.replicate 18 (0 : Int) = nI (dgN 0 18) := by decide

set_option maxRecDepth 100000 in
set_option maxHeartbeats 8000000 in
theorem mac8_any (vk vb : Value) (k b : List UInt8) (hk : k.length = 32) (hb : b.length ≤ 7000000) (w : World) (hrk : Rd w vk k) (hrb : Rd w vb b) :
    Calls Tryd.prog 60 #[vk, vb] w fun e w' => ∃ r, e = .returned r ∧ New 5 w r (mcP k b) w' := by
  obtain ⟨ti, hti, hz0, hz1, hz2⟩ := info_parts infoI8
  obtain ⟨bk, ok, ck, rfl, hck, hlk, hcellk⟩ := hrk.cells8 (by rw [hk]; decide)
  have HKC : Hid _ := hcellk
  obtain ⟨ab, cb, rfl, hcb, hmb, -, -⟩ := id hrb
  unfold maxLen at hmb
  have HRB : Hid _ := hrb
  have HK : Hid (k.length = 32) := hk
  rw [hk] at hck hrk ⊢
  clear hcellk hrb hk
  go_enter Tryd.func60, Tryd.ntmps60
  go_wp2_with fail
  refine (clamp8_any _ k HK.out _ hrk).mono ?_
  rintro e w1 ⟨vr, rfl, hNr⟩
  obtain ⟨br, orr, cr, rfl, hcr, hlr, hcellr⟩ := hNr.rd.cells8 (by rw [clP_length]; decide)
  have HR : Hid (∀ i, i < 16 → w1.cell? ⟨br, orr + i, none⟩ = some (.int .u8 ((dg (leN (clP k)) i : Nat) : Int))) := fun i hi => (by rw [dg_leN8]; exact hcellr i (by rw [clP_length]; exact hi))
  rw [clP_length] at hcr ⊢
  have HB1 : Hid _ := hNr.2
  have hR16 := leN_lt (clP k)
  rw [clP_length] at hR16
  have HR16 : Hid (leN (clP k) < 256 ^ 16) := hR16
  obtain ⟨R, hRe⟩ : ∃ R, R = leN (clP k) := ⟨_, rfl⟩
  have HRE : Hid (R = leN (clP k)) := hRe
  rw [← hRe] at HR HR16
  clear hcellr hNr hR16 hRe
  go_wp2_with (at_make; go_must (refine wpList_make_full _ rfl _ _ 68 rfl _ 3 ti _ 1 Tryd.underlying68 hti hz0 hz1 _ _ _ _ 18 rfl rfl rfl rfl (by rw [hz2]; omega) (by unfold maxLen; omega) (Nat.le_refl _) ?_))
  intro w2 hown hgr
  have hN2 := NewI.made hown hgr
  rw [zero18] at hN2
  clear hown hgr
  go_wp2
  go_loopw [6, 7] (fun av iv wx => ∃ j L : Nat, iv = .int .i64 ((16 * j : Nat) : Int) ∧ j ≤ nblk b.length ∧ 18 ≤ L ∧ L ≤ 18 + 34 * j ∧ NewI .i64 3 w1 av (nI (dgN (accN R b j) L)) wx) (fun _ iv _ => b.length + 16 - (intOf iv).toNat)
  case atStart => exact ⟨0, 18, rfl, by omega, by omega, by omega, hN2⟩
  case round =>
    obtain ⟨j, L, rfl, hj, hL1, hL2, hN⟩ := hrel
    rename World => WA
    clear hN2
    have hjb : j ≤ 437501 := by unfold nblk at hj; omega
    obtain ⟨i, hi⟩ : ∃ i : Nat, i = 16 * j := ⟨_, rfl⟩
    rw [← hi]
    have HI : Hid (i = 16 * j) := hi
    have HLM : Hid ((nI (dgN (accN R b j) L)).length = L) := by show _ = _; rw [nI_length, dgN_length]
    obtain ⟨ga, ca, rfl, hga, hgalt, hca, hcx, -, -, -⟩ := hN.all (by rw [← List.length_pos_iff, HLM.out]; omega)
    unfold maxLen at hcx
    rw [HLM.out] at hN hca ⊢
    have HAL : Hid (accN R b j < 256 ^ L) := by
      have h1 := accN_lt R b j
      have h3 : 256 ^ 18 ≤ 256 ^ L := Nat.pow_le_pow_right (by decide) hL1
      show _ < _
      rw [p8_val] at h1
      omega
    have hL0I : (17 : Int) < (L : Int) := by omega
    by_cases hlt : i < b.length
    · have hdi : decide ((i : Int) < (b.length : Int)) = true := decide_eq_true (by omega)
      have hiI : (i : Int) < (b.length : Int) := by omega
      obtain ⟨bs, hbs⟩ : ∃ bs, bs = (b.drop (16 * j)).take 16 := ⟨_, rfl⟩
      have hbl := blk_length b j
      rw [← hbs, ← hi] at hbl
      have HBG : Hid (∀ n, n < 16 → bs.getD n 0 = b.getD (i + n) 0) := fun n hn => by rw [hbs, hi]; exact blk_get b j n hn
      have HBN : Hid (blkN b j = leN bs + 256 ^ bs.length) := by show _ = _; rw [hbs]; rfl
      obtain ⟨bb, ob, cb2, ev, -, hlb, hcellb⟩ := Rd.cells8 (l := b) HRB.out (by omega)
      simp only [Value.slice.injEq] at ev
      obtain ⟨rfl, -, rfl⟩ := ev
      have HBC : Hid _ := hcellb
      have hS := Ad8.start (accN R b j) L bs HAL.out
      have HLE : Hid ((dgN (accN R b j) L).length = L) := dgN_length _ _
      have HS : Hid _ := hS
      have HBL : Hid (bs.length = min 16 (b.length - i)) := hbl
      clear hbs hcellb hi hS hbl
      go_wp2
      go_loopw [8] (fun nv wx => ∃ (n : Nat) (o : List Nat), nv = .int .i64 (n : Int) ∧ n ≤ bs.length ∧ Hid (o.length = L) ∧ Hid (Ad8 (accN R b j) bs n o) ∧ NewI .i64 3 w1 (.slice (some ⟨ga, 0, none⟩) L ca) (nI o) wx) (fun nv _ => 16 - (intOf nv).toNat)
      case atStart => exact ⟨0, _, rfl, by omega, HLE, HS, hN⟩
      case round =>
        obtain ⟨n, o, rfl, hn, HO, HA, hNn⟩ := hrel
        rename World => WB
        clear hN HS HLE
        have hbl := HBL.out
        have hn16 : n ≤ 16 := by omega
        obtain ⟨g, c, ev, -, -, k1, k2, k3⟩ := hNn.at (j := n) (by rw [nI_length, HO.out]; omega)
        simp only [Value.slice.injEq, Option.some.injEq, Addr.mk.injEq, and_true, true_and] at ev
        obtain ⟨rfl, -, rfl⟩ := ev
        rw [nI_get] at k1
        have hz := HA.out.rest n (Nat.le_refl _)
        have wi : IntKind.i64.wrap ((i : Int) + (n : Int)) = (i : Int) + (n : Int) := IntWalk.i64_in _ (by omega)
        have hnL : (n : Int) < (L : Int) := by omega
        by_cases hlt2 : n < bs.length
        · have d16 : decide ((n : Int) < 16) = true := decide_eq_true (by omega)
          have d16I : (n : Int) < 16 := by omega
          have db : decide ((i : Int) + (n : Int) < (b.length : Int)) = true := decide_eq_true (by omega)
          have dbI : (i : Int) + (n : Int) < (b.length : Int) := by omega
          have ein : ((i : Int) + (n : Int)).toNat = i + n := by omega
          have ei0 : (0 : Int) ≤ (i : Int) + (n : Int) := by omega
          have c2 : WB.cell? ⟨bb, ob + (i + n), none⟩ = some (.int .u8 (((bs.getD n 0).toNat : Nat) : Int)) := by
            rw [hNn.2.cell (p := ⟨bb, ob + (i + n), none⟩) (Nat.lt_of_lt_of_le hlb HB1.out.size), HB1.out.cell (p := ⟨bb, ob + (i + n), none⟩) hlb, HBG.out n (by omega)]
            exact HBC.out (i + n) (by omega)
          have k4 := k3 ((o.getD n 0 + (bs.getD n 0).toNat : Nat) : Int)
          rw [nI_set] at k4
          have HA2 : Hid _ := HA.out.put hlt2 (by rw [HO.out]; omega)
          have HO2 : Hid ((o.set n (o.getD n 0 + (bs.getD n 0).toNat)).length = L) := by show _ = _; rw [List.length_set]; exact HO.out
          have hbt := (bs.getD n 0).toNat_lt
          generalize o.set n (o.getD n 0 + (bs.getD n 0).toNat) = o2 at k4 HA2 HO2
          have HK4 : Hid _ := k4
          generalize o.getD n 0 = z at k1 hz HK4
          generalize (bs.getD n 0).toNat = t at c2 hbt HK4
          have es : IntKind.i64.wrap ((z : Int) + (t : Int)) = ((z + t : Nat) : Int) := by rw [IntWalk.i64_in _ (by omega)]; omega
          have et : IntKind.i64.wrap (t : Int) = (t : Int) := IntWalk.i64_in _ (by omega)
          clear hNn k3 k4 hbl
          go_wp2_with fail
          refine wpE_begin 13 (by kernel_rfl) ?_
          refine eU_ 0 rfl ⟨_, by intro W hW; go_simp <;> with_reducible rfl, ?_⟩
          try simp only [Act.put, pA_, pB_, pC_]
          refine eU_ 1 rfl ⟨_, by intro W hW; go_simp <;> with_reducible rfl, ?_⟩
          try simp only [Act.put, pA_, pB_, pC_]
          refine eU_ 2 rfl ⟨_, by intro W hW; go_simp <;> with_reducible rfl, ?_⟩
          try simp only [Act.put, pA_, pB_, pC_]
          refine eU_ 3 rfl ⟨_, by intro W hW; have hcw := cellU k1 hW; go_simp <;> with_reducible rfl, ?_⟩
          try simp only [Act.put, pA_, pB_, pC_]
          refine eU_ 4 rfl ⟨_, by intro W hW; go_simp <;> with_reducible rfl, ?_⟩
          try simp only [Act.put, pA_, pB_, pC_]
          refine eU_ 5 rfl ⟨_, by intro W hW; go_simp <;> with_reducible rfl, ?_⟩
          try simp only [Act.put, pA_, pB_, pC_]
          refine eU_ 6 rfl ⟨_, by intro W hW; go_simp <;> with_reducible rfl, ?_⟩
          try simp only [Act.put, pA_, pB_, pC_]
          refine eU_ 7 rfl ⟨_, by intro W hW; go_simp <;> with_reducible rfl, ?_⟩
          try simp only [Act.put, pA_, pB_, pC_]
          refine eU_ 8 rfl ⟨_, by intro W hW; go_simp <;> with_reducible rfl, ?_⟩
          try simp only [Act.put, pA_, pB_, pC_]
          refine eU_ 9 rfl ⟨_, by intro W hW; have hcw := cellU c2 hW; go_simp <;> with_reducible rfl, ?_⟩
          try simp only [Act.put, pA_, pB_, pC_]
          refine eU_ 10 rfl ⟨_, by intro W hW; go_simp <;> with_reducible rfl, ?_⟩
          try simp only [Act.put, pA_, pB_, pC_]
          refine eU_ 11 rfl ⟨_, by intro W hW; go_simp <;> with_reducible rfl, ?_⟩
          try simp only [Act.put, pA_, pB_, pC_]
          refine eU_ 12 rfl ⟨_, by intro W hW; go_simp <;> with_reducible rfl, ?_⟩
          try simp only [Act.put, pA_, pB_, pC_]
          refine eL_ fun K hK => ?_
          go_simp
          refine hK.out _ _ ?_
          clear hK K
          try simp only [Act.put, pA_, pB_, pC_]
          go_wp2
          go_roundw
          case rel => exact ⟨n + 1, o2, by go_num, by omega, HO2, HA2, NewI.drew HK4.out⟩
          case measure => simp [intOf] <;> omega
        · have hnb : n = bs.length := by omega
          have h1 := HA.out.one (by rw [HO.out]; omega)
          have k4 := k3 ((o.getD n 0 + 1 : Nat) : Int)
          rw [nI_set] at k4
          have HV : Hid (dv (o.set n (o.getD n 0 + 1)) = accN R b j + blkN b j) := by
            show _ = _
            rw [h1.1, HBN.out, hnb, List.take_length]
          have HOB : Hid (∀ y ∈ o.set n (o.getD n 0 + 1), y ≤ 1099511627776) := h1.2
          have HO2 : Hid ((o.set n (o.getD n 0 + 1)).length = L) := by show _ = _; rw [List.length_set]; exact HO.out
          generalize o.set n (o.getD n 0 + 1) = o2 at k4 HV HOB HO2
          generalize o.getD n 0 = z at k1 hz k4
          have es : IntKind.i64.wrap ((z : Int) + 1) = ((z + 1 : Nat) : Int) := by rw [IntWalk.i64_in _ (by omega)]; omega
          have hRD := k4.rd
          have HK4 : Hid _ := k4
          have hcon : n = 16 ∨ (n < 16 ∧ i + n = b.length) := by omega
          clear hNn k3 k4 h1 HA HO hlt2 hbl hnb hn
          rcases hcon with hcon | hcon
          case' inl =>
            subst hcon
          case' inr =>
            have d16 : decide ((n : Int) < 16) = true := decide_eq_true (by omega)
            have d16I : (n : Int) < 16 := by omega
            have db : decide ((i : Int) + (n : Int) < (b.length : Int)) = false := decide_eq_false (by omega)
            have dbI : (b.length : Int) ≤ (i : Int) + (n : Int) := by omega
            clear hcon
          all_goals
            go_wp2_with fail
            refine (carry8_any _ o2 18 18 rfl (by omega) HOB.out (by rw [HO2.out]; omega) _ hRD).mono ?_
            rintro e w4 ⟨v4, L4, rfl, hL4, h184, hx4, hmin, hN4⟩
            rw [HV.out] at hx4 hmin hN4
            rw [HO2.out] at hL4 hmin
            have hL4e : L4 = L := by
              have := hmin L (Nat.le_refl _) hL1 (acc_blk_lt R b j L hL1)
              omega
            subst hL4e
            have HX4 : Hid _ := hx4
            have HB4 : Hid _ := HK4.out.2.trans (hN4.2.mono HK4.out.2.size)
            have HLM4 : Hid ((nI (dgN (accN R b j + blkN b j) L4)).length = L4) := by show _ = _; rw [nI_length, dgN_length]
            obtain ⟨gs, cs, rfl, hgs, hgslt, hcs, hcsx, hcells4, -, -⟩ := hN4.all (by rw [← List.length_pos_iff, HLM4.out]; omega)
            unfold maxLen at hcsx
            have HC4 : Hid (∀ i, i < L4 → w4.cell? ⟨gs, i, none⟩ = some (.int .i64 ((dg (accN R b j + blkN b j) i : Nat) : Int))) := fun i hi => by rw [hcells4 i (by rw [HLM4.out]; exact hi), nI_get, dgN_get _ _ _ hi]
            rw [HLM4.out] at hcs ⊢
            have HAN : Hid (accN R b (j + 1) = (accN R b j + blkN b j) * R % p8) := rfl
            generalize accN R b j + blkN b j = s at hN4 HX4 HC4 HAN HLM4 HV
            obtain ⟨M, hM⟩ : ∃ M : Nat, M = L4 + 16 := ⟨_, rfl⟩
            have wM : IntKind.i64.wrap ((L4 : Int) + 16) = (M : Int) := by rw [IntWalk.i64_in _ (by omega)]; omega
            have hM2 : (M : Int).toNat = M := by omega
            have hM3 : M ≤ 15900000 := by omega
            have HM : Hid (M = L4 + 16) := hM
            clear hmin hx4 hN4 hcells4 hL4 h184 hRD HK4 k1 k2 es hM
            go_wp2_with (at_make; go_must (refine wpList_make_full _ rfl _ _ 68 rfl _ 3 ti _ 1 Tryd.underlying68 hti hz0 hz1 _ _ _ _ M rfl rfl (by omega) (by omega) (by rw [hz2]; omega) (by unfold maxLen; omega) (Nat.le_refl _) ?_))
            intro w5 hown hgr
            have hN5 := NewI.made hown hgr
            have HS5 : Hid _ := Mu8.start s R M
            have HL5 : Hid ((List.replicate M 0).length = M) := List.length_replicate
            rw [← nI_zeros] at hN5
            clear hown hgr
            go_wp2
            go_loopw [10] (fun xv wx => ∃ (x : Nat) (o : List Nat), xv = .int .i64 (x : Int) ∧ x ≤ L4 ∧ Hid (o.length = M) ∧ Hid (Mu8 s R x 0 o) ∧ NewI .i64 3 w4 (.slice (some ⟨w4.heap.size, 0, none⟩) M M) (nI o) wx) (fun xv _ => L4 - (intOf xv).toNat)
            case atStart => exact ⟨0, _, rfl, by omega, HL5, HS5, hN5⟩
            case round =>
              obtain ⟨x, o3, rfl, hx, HO3, HU3, hN6⟩ := hrel
              rename World => WC
              clear hN5 HS5 HL5
              by_cases hxl : x < L4
              · have dx : decide ((x : Int) < (L4 : Int)) = true := decide_eq_true (by omega)
                have dxI : (x : Int) < (L4 : Int) := by omega
                go_wp2
                go_loopw [11] (fun yv wx => ∃ (y : Nat) (o : List Nat), yv = .int .i64 (y : Int) ∧ y ≤ 16 ∧ Hid (o.length = M) ∧ Hid (Mu8 s R x y o) ∧ NewI .i64 3 w4 (.slice (some ⟨w4.heap.size, 0, none⟩) M M) (nI o) wx) (fun yv _ => 16 - (intOf yv).toNat)
                case atStart => exact ⟨0, _, rfl, by omega, HO3, HU3, hN6⟩
                case round =>
                  obtain ⟨y, o4, rfl, hy, HO4, HU4, hN7⟩ := hrel
                  rename World => WD
                  clear hN6 HO3 HU3
                  by_cases hyl : y < 16
                  · have dy : decide ((y : Int) < 16) = true := decide_eq_true (by omega)
                    have dyI : (y : Int) < 16 := by omega
                    have hMx := HM.out
                    have c1 : WD.cell? ⟨gs, x, none⟩ = some (.int .i64 ((dg s x : Nat) : Int)) := by
                      rw [hN7.2.cell (p := ⟨gs, x, none⟩) hgslt]
                      exact HC4.out x hxl
                    have c2 : WD.cell? ⟨br, orr + y, none⟩ = some (.int .u8 ((dg R y : Nat) : Int)) := by
                      rw [hN7.2.cell (p := ⟨br, orr + y, none⟩) (Nat.lt_of_lt_of_le hlr HB4.out.size), HB4.out.cell (p := ⟨br, orr + y, none⟩) hlr]
                      exact HR.out y hyl
                    obtain ⟨g, c, ev, -, -, k1, k2, k3⟩ := hN7.at (j := x + y) (by rw [nI_length, HO4.out]; omega)
                    simp only [Value.slice.injEq, Option.some.injEq, Addr.mk.injEq, and_true, true_and] at ev
                    obtain ⟨rfl, -, rfl⟩ := ev
                    rw [nI_get] at k1
                    have hzb := HU4.out.rest (x + y) (Nat.le_refl _)
                    have h1 := dg_lt s x
                    have h2 := dg_lt R y
                    have hpq : dg s x * dg R y ≤ 65025 := Nat.le_trans (Nat.mul_le_mul (show dg s x ≤ 255 by omega) (show dg R y ≤ 255 by omega)) (by omega)
                    have k4 := k3 ((o4.getD (x + y) 0 + dg s x * dg R y : Nat) : Int)
                    rw [nI_set] at k4
                    have HU5 : Hid _ := HU4.out.put (by rw [HO4.out]; omega)
                    have HO5 : Hid ((o4.set (x + y) (o4.getD (x + y) 0 + dg s x * dg R y)).length = M) := by show _ = _; rw [List.length_set]; exact HO4.out
                    generalize o4.set (x + y) (o4.getD (x + y) 0 + dg s x * dg R y) = o5 at k4 HU5 HO5
                    have HK5 : Hid _ := k4
                    generalize o4.getD (x + y) 0 = z4 at k1 HK5 hzb
                    obtain ⟨m, hm⟩ : ∃ m : Nat, m = dg s x * dg R y := ⟨_, rfl⟩
                    have em : IntKind.i64.wrap (((dg s x : Nat) : Int) * ((dg R y : Nat) : Int)) = (m : Int) := by
                      rw [← Int.natCast_mul, ← hm]
                      exact IntWalk.i64_in _ (by omega)
                    have ec : IntKind.i64.wrap ((dg R y : Nat) : Int) = ((dg R y : Nat) : Int) := IntWalk.i64_in _ (by omega)
                    rw [← hm] at HK5 hpq
                    have es : IntKind.i64.wrap ((z4 : Int) + (m : Int)) = ((z4 + m : Nat) : Int) := by rw [IntWalk.i64_in _ (by omega)]; omega
                    have ei : IntKind.i64.wrap ((x : Int) + (y : Int)) = (x : Int) + (y : Int) := IntWalk.i64_in _ (by omega)
                    have ein : ((x : Int) + (y : Int)).toNat = x + y := by omega
                    have eil : (x : Int) + (y : Int) < (M : Int) := by omega
                    have ei0 : (0 : Int) ≤ (x : Int) + (y : Int) := by omega
                    clear hN7 k3 k4 h1 h2 hm hzb HO4 HU4 hMx
                    go_wp2_with fail
                    refine wpE_begin 18 (by kernel_rfl) ?_
                    refine eU_ 0 rfl ⟨_, by intro W hW; go_simp <;> with_reducible rfl, ?_⟩
                    try simp only [Act.put, pA_, pB_, pC_]
                    refine eU_ 1 rfl ⟨_, by intro W hW; go_simp <;> with_reducible rfl, ?_⟩
                    try simp only [Act.put, pA_, pB_, pC_]
                    refine eU_ 2 rfl ⟨_, by intro W hW; go_simp <;> with_reducible rfl, ?_⟩
                    try simp only [Act.put, pA_, pB_, pC_]
                    refine eU_ 3 rfl ⟨_, by intro W hW; go_simp <;> with_reducible rfl, ?_⟩
                    try simp only [Act.put, pA_, pB_, pC_]
                    refine eU_ 4 rfl ⟨_, by intro W hW; go_simp <;> with_reducible rfl, ?_⟩
                    try simp only [Act.put, pA_, pB_, pC_]
                    refine eU_ 5 rfl ⟨_, by intro W hW; have hcw := cellU k1 hW; go_simp <;> with_reducible rfl, ?_⟩
                    try simp only [Act.put, pA_, pB_, pC_]
                    refine eU_ 6 rfl ⟨_, by intro W hW; go_simp <;> with_reducible rfl, ?_⟩
                    try simp only [Act.put, pA_, pB_, pC_]
                    refine eU_ 7 rfl ⟨_, by intro W hW; go_simp <;> with_reducible rfl, ?_⟩
                    try simp only [Act.put, pA_, pB_, pC_]
                    refine eU_ 8 rfl ⟨_, by intro W hW; go_simp <;> with_reducible rfl, ?_⟩
                    try simp only [Act.put, pA_, pB_, pC_]
                    refine eU_ 9 rfl ⟨_, by intro W hW; have hcw := cellU c1 hW; go_simp <;> with_reducible rfl, ?_⟩
                    try simp only [Act.put, pA_, pB_, pC_]
                    refine eU_ 10 rfl ⟨_, by intro W hW; go_simp <;> with_reducible rfl, ?_⟩
                    try simp only [Act.put, pA_, pB_, pC_]
                    refine eU_ 11 rfl ⟨_, by intro W hW; go_simp <;> with_reducible rfl, ?_⟩
                    try simp only [Act.put, pA_, pB_, pC_]
                    refine eU_ 12 rfl ⟨_, by intro W hW; go_simp <;> with_reducible rfl, ?_⟩
                    try simp only [Act.put, pA_, pB_, pC_]
                    refine eU_ 13 rfl ⟨_, by intro W hW; have hcw := cellU c2 hW; go_simp <;> with_reducible rfl, ?_⟩
                    try simp only [Act.put, pA_, pB_, pC_]
                    refine eU_ 14 rfl ⟨_, by intro W hW; go_simp <;> with_reducible rfl, ?_⟩
                    try simp only [Act.put, pA_, pB_, pC_]
                    refine eU_ 15 rfl ⟨_, by intro W hW; go_simp <;> with_reducible rfl, ?_⟩
                    try simp only [Act.put, pA_, pB_, pC_]
                    refine eU_ 16 rfl ⟨_, by intro W hW; go_simp <;> with_reducible rfl, ?_⟩
                    try simp only [Act.put, pA_, pB_, pC_]
                    refine eU_ 17 rfl ⟨_, by intro W hW; go_simp <;> with_reducible rfl, ?_⟩
                    try simp only [Act.put, pA_, pB_, pC_]
                    refine eL_ fun K hK => ?_
                    go_simp
                    refine hK.out _ _ ?_
                    clear hK K
                    try simp only [Act.put, pA_, pB_, pC_]
                    go_wp2
                    go_roundw
                    case rel => exact ⟨y + 1, o5, by go_num, by omega, HO5, HU5, NewI.drew HK5.out⟩
                    case measure => simp [intOf] <;> omega
                  · have hy16 : y = 16 := by omega
                    subst hy16
                    have HU5 : Hid _ := HU4.out.next HR16.out
                    have HK5 : Hid _ := hN7
                    clear hN7 HU4
                    go_wp2
                    go_roundw
                    case rel => exact ⟨x + 1, o4, by go_num, by omega, HO4, HU5, HK5.out⟩
                    case measure => simp [intOf] <;> omega
              · have hxe : x = L4 := by omega
                have dx : decide ((x : Int) < (L4 : Int)) = false := decide_eq_false (by omega)
                have dxI : (L4 : Int) ≤ (x : Int) := by omega
                have h1 := HU3.out
                rw [hxe] at h1
                have h2 := h1.done HX4.out (by omega)
                have HV6 : Hid _ := h2.1
                have HB6 : Hid _ := h2.2
                have hRD6 := hN6.rd
                have HB7 : Hid _ := HB4.out.trans (hN6.2.mono HB4.out.size)
                clear h1 h2 hN6 hxe
                go_wp2_with fail
                refine (mod8_any _ o3 HB6.out (by rw [HO3.out]; omega) _ hRD6).mono ?_
                rintro e w8 ⟨v8, L8, rfl, hL8, hL8b, hN8⟩
                rw [HV6.out, ← HAN.out] at hN8
                rw [HO3.out] at hL8b
                have HN8 : Hid _ := hN8.from8 HB7.out
                have hL8c : L8 ≤ 18 + 34 * (j + 1) := by have := HM.out; omega
                have HI2 : Hid ((i : Int) + 16 = ((16 * (j + 1) : Nat) : Int)) := by show _ = _; have := HI.out; omega
                have hj2 : j + 1 ≤ nblk b.length := by have := HI.out; unfold nblk; omega
                clear hN8 hRD6
                go_wp2
                go_roundw
                case rel => exact ⟨j + 1, L8, by rw [← HI2.out], hj2, hL8, hL8c, HN8.out⟩
                case measure => have := HI.out; simp [intOf] <;> omega
    · have hdi : decide ((i : Int) < (b.length : Int)) = false := decide_eq_false (by omega)
      have hiI : (b.length : Int) ≤ (i : Int) := by omega
      have hje : j = nblk b.length := by unfold nblk at hj ⊢; omega
      obtain ⟨ks, hks⟩ : ∃ ks, ks = (k.drop 16).take 16 := ⟨_, rfl⟩
      have hkl : ks.length = 16 := by rw [hks]; simp [HK.out]
      have HKL : Hid (ks.length = 16) := hkl
      have HKG : Hid (∀ n, n < 16 → ks.getD n 0 = k.getD (16 + n) 0) := fun n hn => by rw [hks]; simp [List.getElem?_take, hn]
      have HMC : Hid (mcP k b = (List.range 16).map (stB (accN R b j + leN ks))) := by show _ = _; unfold mcP; rw [hje, hks, HRE.out]
      have HLE : Hid ((dgN (accN R b j) L).length = L) := dgN_length _ _
      have HS : Hid _ := Ad8.start (accN R b j) L ks HAL.out
      clear hks hkl hje hi
      go_wp2
      go_loopw [12] (fun nv wx => ∃ (n : Nat) (o : List Nat), nv = .int .i64 (n : Int) ∧ n ≤ 16 ∧ Hid (o.length = L) ∧ Hid (Ad8 (accN R b j) ks n o) ∧ NewI .i64 3 w1 (.slice (some ⟨ga, 0, none⟩) L ca) (nI o) wx) (fun nv _ => 16 - (intOf nv).toNat)
      case atStart => exact ⟨0, _, rfl, by omega, HLE, HS, hN⟩
      case round =>
        obtain ⟨n, o, rfl, hn, HO, HA, hNn⟩ := hrel
        rename World => WB
        clear hN HS HLE
        by_cases hlt2 : n < 16
        · have d16 : decide ((n : Int) < 16) = true := decide_eq_true (by omega)
          have d16I : (n : Int) < 16 := by omega
          obtain ⟨g, c, ev, -, -, k1, k2, k3⟩ := hNn.at (j := n) (by rw [nI_length, HO.out]; omega)
          simp only [Value.slice.injEq, Option.some.injEq, Addr.mk.injEq, and_true, true_and] at ev
          obtain ⟨rfl, -, rfl⟩ := ev
          rw [nI_get] at k1
          have hz := HA.out.rest n (Nat.le_refl _)
          have wi : IntKind.i64.wrap (16 + (n : Int)) = 16 + (n : Int) := IntWalk.i64_in _ (by omega)
          have hnL : (n : Int) < (L : Int) := by omega
          have dbI : 16 + (n : Int) < 32 := by omega
          have ein : (16 + (n : Int)).toNat = 16 + n := by omega
          have ei0 : (0 : Int) ≤ 16 + (n : Int) := by omega
          have c2 : WB.cell? ⟨bk, ok + (16 + n), none⟩ = some (.int .u8 (((ks.getD n 0).toNat : Nat) : Int)) := by
            rw [hNn.2.cell (p := ⟨bk, ok + (16 + n), none⟩) (Nat.lt_of_lt_of_le hlk HB1.out.size), HB1.out.cell (p := ⟨bk, ok + (16 + n), none⟩) hlk, HKG.out n (by omega)]
            exact HKC.out (16 + n) (by rw [HK.out]; omega)
          have k4 := k3 ((o.getD n 0 + (ks.getD n 0).toNat : Nat) : Int)
          rw [nI_set] at k4
          have HA2 : Hid _ := HA.out.put (by rw [HKL.out]; omega) (by rw [HO.out]; omega)
          have HO2 : Hid ((o.set n (o.getD n 0 + (ks.getD n 0).toNat)).length = L) := by show _ = _; rw [List.length_set]; exact HO.out
          have hbt := (ks.getD n 0).toNat_lt
          generalize o.set n (o.getD n 0 + (ks.getD n 0).toNat) = o2 at k4 HA2 HO2
          have HK4 : Hid _ := k4
          generalize o.getD n 0 = z at k1 hz HK4
          generalize (ks.getD n 0).toNat = t at c2 hbt HK4
          have es : IntKind.i64.wrap ((z : Int) + (t : Int)) = ((z + t : Nat) : Int) := by rw [IntWalk.i64_in _ (by omega)]; omega
          have et : IntKind.i64.wrap (t : Int) = (t : Int) := IntWalk.i64_in _ (by omega)
          clear hNn k3 k4
          go_wp2_with fail
          refine wpE_begin 12 (by kernel_rfl) ?_
          refine eU_ 0 rfl ⟨_, by intro W hW; go_simp <;> with_reducible rfl, ?_⟩
          try simp only [Act.put, pA_, pB_, pC_]
          refine eU_ 1 rfl ⟨_, by intro W hW; go_simp <;> with_reducible rfl, ?_⟩
          try simp only [Act.put, pA_, pB_, pC_]
          refine eU_ 2 rfl ⟨_, by intro W hW; go_simp <;> with_reducible rfl, ?_⟩
          try simp only [Act.put, pA_, pB_, pC_]
          refine eU_ 3 rfl ⟨_, by intro W hW; have hcw := cellU k1 hW; go_simp <;> with_reducible rfl, ?_⟩
          try simp only [Act.put, pA_, pB_, pC_]
          refine eU_ 4 rfl ⟨_, by intro W hW; go_simp <;> with_reducible rfl, ?_⟩
          try simp only [Act.put, pA_, pB_, pC_]
          refine eU_ 5 rfl ⟨_, by intro W hW; go_simp <;> with_reducible rfl, ?_⟩
          try simp only [Act.put, pA_, pB_, pC_]
          refine eU_ 6 rfl ⟨_, by intro W hW; go_simp <;> with_reducible rfl, ?_⟩
          try simp only [Act.put, pA_, pB_, pC_]
          refine eU_ 7 rfl ⟨_, by intro W hW; go_simp <;> with_reducible rfl, ?_⟩
          try simp only [Act.put, pA_, pB_, pC_]
          refine eU_ 8 rfl ⟨_, by intro W hW; have hcw := cellU c2 hW; go_simp <;> with_reducible rfl, ?_⟩
          try simp only [Act.put, pA_, pB_, pC_]
          refine eU_ 9 rfl ⟨_, by intro W hW; go_simp <;> with_reducible rfl, ?_⟩
          try simp only [Act.put, pA_, pB_, pC_]
          refine eU_ 10 rfl ⟨_, by intro W hW; go_simp <;> with_reducible rfl, ?_⟩
          try simp only [Act.put, pA_, pB_, pC_]
          refine eU_ 11 rfl ⟨_, by intro W hW; go_simp <;> with_reducible rfl, ?_⟩
          try simp only [Act.put, pA_, pB_, pC_]
          refine eL_ fun K hK => ?_
          go_simp
          refine hK.out _ _ ?_
          clear hK K
          try simp only [Act.put, pA_, pB_, pC_]
          go_wp2
          go_roundw
          case rel => exact ⟨n + 1, o2, by go_num, by omega, HO2, HA2, NewI.drew HK4.out⟩
          case measure => simp [intOf] <;> omega
        · have hn16 : n = 16 := by omega
          subst hn16
          have HV : Hid (dv o = accN R b j + leN ks) := by
            have h := HA.out.val
            rw [List.take_of_length_le (by rw [HKL.out]; decide)] at h
            exact h
          have HOB : Hid (∀ y ∈ o, y ≤ 1099511627776) := fun y hy => by have := HA.out.all y hy; omega
          have hRD := hNn.rd
          have HB3 : Hid _ := HB1.out.trans (hNn.2.mono HB1.out.size)
          clear hNn HA hlt2
          go_wp2_with fail
          refine (carry8_any _ o 18 18 rfl (by omega) HOB.out (by rw [HO.out]; omega) _ hRD).mono ?_
          rintro e w4 ⟨v4, L4, rfl, hL4, h184, hx4, hmin, hN4⟩
          rw [HV.out] at hN4
          have HB4 : Hid _ := HB3.out.trans (hN4.2.mono HB3.out.size)
          have HLM4 : Hid ((nI (dgN (accN R b j + leN ks) L4)).length = L4) := by show _ = _; rw [nI_length, dgN_length]
          obtain ⟨gs, cs, rfl, hgs, hgslt, hcs, hcsx, hcells4, -, -⟩ := hN4.all (by rw [← List.length_pos_iff, HLM4.out]; omega)
          unfold maxLen at hcsx
          have HC4 : Hid (∀ i, i < L4 → w4.cell? ⟨gs, i, none⟩ = some (.int .i64 ((dg (accN R b j + leN ks) i : Nat) : Int))) := fun i hi => by rw [hcells4 i (by rw [HLM4.out]; exact hi), nI_get, dgN_get _ _ _ hi]
          rw [HLM4.out] at hcs ⊢
          generalize accN R b j + leN ks = s at HMC HC4
          clear hmin hx4 hN4 hcells4 hL4 hRD HLM4 HV HOB HO
          go_wp2
          go_loopw [13, 14] (fun v iv wx => ∃ i : Nat, i ≤ 16 ∧ iv = .int .i64 (i : Int) ∧ New 5 w4 v ((List.range i).map (stB s)) wx) (fun _ iv _ => 16 - (intOf iv).toNat)
          case atStart => exact ⟨0, by omega, rfl, New.start w4⟩
          case round =>
            obtain ⟨m, hm, rfl, hNo⟩ := hrel
            rename World => WC
            by_cases hl : m < 16
            · have hd : decide ((m : Int) < 16) = true := decide_eq_true (by omega)
              have hmI : (m : Int) < 16 := by omega
              have hmL : (m : Int) < (L4 : Int) := by omega
              have c1 : WC.cell? ⟨gs, m, none⟩ = some (.int .i64 ((dg s m : Nat) : Int)) := by
                rw [hNo.2.cell (p := ⟨gs, m, none⟩) hgslt]
                exact HC4.out m (by omega)
              have hw := stB_dg s m
              have HN : Hid ((List.range m).map (stB s) ++ [stB s m] = (List.range (m + 1)).map (stB s)) := by
                show _ = _
                rw [List.range_succ, List.map_append]
                rfl
              generalize dg s m = p at c1 hw
              generalize stB s m = q at hw HN
              have hLt : Rd (WC.alloc (.cells #[.int .u8 (q.toNat : Int)] 5)) (.slice (some ⟨WC.heap.size, 0, none⟩) 1 1) [q] := Rd.lit1 q rfl
              have hlen : ((List.range m).map (stB s)).length + [q].length ≤ 140737488355328 := by simp; omega
              go_wp2_with (at_builtin; go_must (refine wpList_append_new (w := w4) rfl _ _ 40 rfl 5 Tryd.underlying40 infoU88 _ _ rfl (hNo.alloc _) _ _ rfl hLt hlen ?_))
              intro v3 w3 hN3 _
              rw [HN.out] at hN3
              clear hNo hLt hlen
              go_wp2
              go_roundw
              case rel => exact ⟨m + 1, by omega, by go_num, hN3⟩
              case measure => simp [intOf] <;> omega
            · have hm16 : m = 16 := by omega
              subst hm16
              have hF := New.from hNo HB4.out
              rw [← HMC.out] at hF
              have HF : Hid _ := hF
              clear hNo hF
              go_wp2
              go_ret
              exact ⟨_, rfl, HF.out⟩
theorem mac8_none (vk vb : Value) (k b : List UInt8) (hk : k.length ≠ 32) (w : World) (hrk : Rd w vk k) :
    Calls Tryd.prog 60 #[vk, vb] w fun e w' => e = .returned (.slice none 0 0) ∧ w' = w := by
  obtain ⟨ak, ck, rfl, hck, hmk, -, -⟩ := id hrk
  have hne : ((k.length : Int) != 32) = true := by simp; omega
  clear hrk hk
  go_enter Tryd.func60, Tryd.ntmps60
  go_wp2
  go_ret
  exact ⟨rfl, rfl⟩
end Go.Proofs.YtliiofjcghdjoaaDoor
