/- What the document's own ladder answers: a contract of the reference of layer 6. -/
import Derived.Test.YthokfcmnijpkhaaRef06a
namespace Go.Proofs.Ythokfcmnijpkhaa
open Go.ChangeShapes Go.WideShapes Go.ChangeAt Go.RowKit
set_option linter.unusedSimpArgs false
set_option linter.unusedVariables false

set_option maxRecDepth 100000 in
set_option maxHeartbeats 4000000 in
theorem scalarR_arg (vk vu : Value) (k u : List UInt8) (w : World) (hk : Rd w vk k) (hu : Rd w vu u) (h : ¬ (k.length = 32 ∧ u.length = 32)) :
    Calls Try.prog 11 #[vk, vu] w fun e w' => e = .returned (.tuple #[.slice none 0 0, .int .i64 1]) ∧ w' = w := by
  obtain ⟨ak, ck, rfl, -, hmk, -, -⟩ := id hk
  obtain ⟨au, cu, rfl, -, hmu, -, -⟩ := id hu
  unfold maxLen at hmk hmu
  by_cases h1 : k.length = 32
  case' pos =>
    have d1 : (((k.length : Nat) : Int) != 32) = false := by rw [h1]; rfl
    have d2 : (((u.length : Nat) : Int) != 32) = true := by
      simp only [bne_iff_ne, ne_eq]
      omega
  case' neg =>
    have d1 : (((k.length : Nat) : Int) != 32) = true := by
      simp only [bne_iff_ne, ne_eq]
      omega
  all_goals
    have H : Hid _ := h
    clear h h1
    go_enter Try.func11, Try.ntmps11
    go_wp2
    go_ret2
    exact ⟨rfl, rfl⟩

set_option maxRecDepth 100000 in
set_option maxHeartbeats 8000000 in
theorem scalarR_any (vk vu : Value) (k u : List UInt8) (w : World) (hk : Rd w vk k) (hu : Rd w vu u) (hk32 : k.length = 32) (hu32 : u.length = 32) :
    Calls Try.prog 11 #[vk, vu] w fun e w' => ∃ r, e = .returned (.tuple #[r, .int .i64 0]) ∧ New 5 w r (enL (scN k u)) w' := by
  obtain ⟨ak, ck, rfl, -, hmk, -, -⟩ := id hk
  obtain ⟨au, cu, rfl, -, hmu, -, -⟩ := id hu
  unfold maxLen at hmk hmu
  have d1 : (((k.length : Nat) : Int) != 32) = false := by rw [hk32]; rfl
  have d2 : (((u.length : Nat) : Int) != 32) = false := by rw [hu32]; rfl
  have HK : Hid (k.length = 32) := hk32
  clear hk32 hu32
  go_enter Try.func11, Try.ntmps11
  go_wp2_with fail
  refine (clampR_any _ k HK.out _ hk).mono ?_
  rintro e w1 ⟨vn, rfl, hNn⟩
  have hn := hNn.rd
  have hbw := hNn.2
  replace hu := hu.kept hNn.2
  clear hNn hk
  go_wp2_with fail
  refine (decodeR_any _ u _ hu).mono ?_
  rintro e w2 ⟨vw, rfl, hw, bn⟩
  replace hn := hn.kept bn
  replace hbw := stepB hbw bn
  clear bn hu
  go_wp2_with fail
  refine (smallR_any 1 (by omega) _ rfl _).mono ?_
  rintro e w3 ⟨v1, rfl, h1, bn⟩
  replace hn := hn.kept bn
  replace hw := hw.kept bn
  replace hbw := stepB hbw bn
  clear bn
  go_wp2_with fail
  refine (smallR_any 0 (by omega) _ rfl _).mono ?_
  rintro e w4 ⟨v2, rfl, h2, bn⟩
  replace hn := hn.kept bn
  replace hw := hw.kept bn
  replace h1 := h1.kept bn
  replace hbw := stepB hbw bn
  clear bn
  go_wp2_with fail
  refine (smallR_any 1 (by omega) _ rfl _).mono ?_
  rintro e w5 ⟨v3, rfl, h3, bn⟩
  replace hn := hn.kept bn
  replace hw := hw.kept bn
  replace h1 := h1.kept bn
  replace h2 := h2.kept bn
  replace hbw := stepB hbw bn
  clear bn
  have HCL : Hid ((clL k).length = 32) := by show _ = _; rw [clL_length]; exact HK.out
  obtain ⟨W, hW⟩ : ∃ W : Nat, W = decN u := ⟨_, rfl⟩
  rw [← hW] at hw
  have HWD : Hid _ := hW
  clear hW
  obtain ⟨nl, hnl⟩ : ∃ l : List UInt8, l = clL k := ⟨_, rfl⟩
  rw [← hnl] at hn HCL
  have HNL : Hid _ := hnl
  clear hnl
  obtain ⟨an, cn, rfl, -, hmn, -, -⟩ := id hn
  unfold maxLen at hmn
  go_wp2
  go_loopw [8, 9, 10, 11, 12] (fun xv zv sv tv iv wx => ∃ (i1 j X Z S T : Nat), i1 + j = 255 ∧ iv = .int .i64 ((i1 : Int) - 1) ∧ RdI .i64 wx xv (fdL X) ∧ RdI .i64 wx zv (fdL Z) ∧ RdI .i64 wx sv (fdL S) ∧ RdI .i64 wx tv (fdL T) ∧ RdI .i64 wx vw (fdL W) ∧ Rd wx (.slice an nl.length cn) nl ∧ Hid (Lq X Z S T (ldN (fv W) (bitB nl) j)) ∧ Below w.heap.size w wx) (fun _ _ _ _ iv _ => (intOf iv + 1).toNat)
  case atStart => exact ⟨255, 0, 1, 0, W, 1, rfl, rfl, h1.kept (Below.refl _ _), h2.kept (Below.refl _ _), hw, h3, hw, hn, Lq.first W _, hbw⟩
  case round =>
    obtain ⟨i1, j, X, Z, S, T, hij, rfl, hX, hZ, hS, hT, hw', hn', HQ, hbx⟩ := hrel
    clear h1 h2 h3 hw hn hbw
    cases i1 with
    | zero =>
      have hj : j = 255 := by omega
      have HE : Hid (X * Z ^ exN % pN = scN k u % pN) := by
        have h := HQ.out
        rw [hj, HNL.out, HWD.out] at h
        exact scN_eq h
      have hd : decide ((0 : Int) ≤ ((0 : Nat) : Int) - 1) = false := by decide
      clear HQ hj
      go_wp2_with fail
      refine (powerR_any _ _ _ hZ).mono ?_
      rintro e w6 ⟨v6, rfl, h6, bn⟩
      replace hX := hX.kept bn
      replace hbx := stepB hbx bn
      clear bn
      go_wp2_with fail
      refine (mulR_any _ _ _ _ _ hX h6).mono ?_
      rintro e w7 ⟨v7, rfl, h7, bn⟩
      rw [fdL_congr HE.out] at h7
      replace hbx := stepB hbx bn
      clear bn
      go_wp2_with fail
      refine (encodeR_any _ _ _ h7).mono ?_
      rintro e w8 ⟨v8, rfl, hN8⟩
      go_wp2
      go_ret2
      exact ⟨_, rfl, hN8.from hbx⟩
    | succ i =>
      have hi : i ≤ 254 := by omega
      have hj : 254 - j = i := by omega
      obtain ⟨I, hI⟩ : ∃ I : Int, I = ((i + 1 : Nat) : Int) - 1 := ⟨_, rfl⟩
      have hIi : I = (i : Int) := by omega
      rw [← hI, hIi]
      clear hI hIi I
      have hd : decide ((0 : Int) ≤ (i : Int)) = true := decide_eq_true (by omega)
      have hge : (0 : Int) ≤ (i : Int) := by omega
      obtain ⟨m, hm⟩ : ∃ m : Nat, m = i / 8 := ⟨_, rfl⟩
      obtain ⟨r, hr⟩ : ∃ r : Nat, r = i % 8 := ⟨_, rfl⟩
      have e1 : ((i : Nat) : Int).tdiv 8 = (m : Int) := by rw [Int.tdiv_eq_ediv_of_nonneg (by omega)]; omega
      have e2 : IntKind.i64.wrap (m : Int) = (m : Int) := IntWalk.i64_in _ (by omega)
      have e3 : ((i : Nat) : Int).tmod 8 = (r : Int) := by rw [Int.tmod_eq_emod_of_nonneg (by omega)]; omega
      have e4 : IntKind.i64.wrap (r : Int) = (r : Int) := IntWalk.i64_in _ (by omega)
      have hm32 : m < nl.length := by rw [HCL.out]; omega
      have hm32I : (m : Int) < (nl.length : Int) := by omega
      obtain ⟨bn', on', cn', ev, -, hcn, -⟩ := hn'.cellAt (i := m) hm32
      simp only [Value.slice.injEq] at ev
      obtain ⟨rfl, -, rfl⟩ := ev
      have hbit : bitB nl (254 - j) = ((nl.getD m 0).toNat / 2 ^ r % 2 == 1) := by
        rw [hj]
        unfold bitB
        rw [← hm, ← hr]
      have hr8 : r < 8 := by omega
      have hby := (nl.getD m 0).toNat_lt
      have hwb := wrapb_i64 (nl.getD m 0)
      generalize (nl.getD m 0).toNat = D at hcn hbit hby hwb
      have HB : Hid _ := hbit
      clear hm hr hbit
      go_wp2
      go_loop [13, 14] (fun dv kv => ∃ (kk d : Nat), kk ≤ r ∧ kv = .int .i64 (kk : Int) ∧ dv = .int .i64 (d : Int) ∧ d < 256 ∧ Hid (d = D / 2 ^ kk)) (fun _ kv => r - (intOf kv).toNat)
      case atStart => exact ⟨0, D, by omega, rfl, rfl, hby, (by show _ = _; simp)⟩
      case round =>
        obtain ⟨kk, d, hkk, rfl, rfl, hd256, HD⟩ := hrel
        by_cases hlt : kk < r
        · have hdk : decide ((kk : Int) < (r : Int)) = true := decide_eq_true (by omega)
          have hkI : (kk : Int) < (r : Int) := by omega
          obtain ⟨d', hd'⟩ : ∃ d' : Nat, d' = d / 2 := ⟨_, rfl⟩
          have f1 : ((d : Nat) : Int).tdiv 2 = (d' : Int) := by rw [Int.tdiv_eq_ediv_of_nonneg (by omega)]; omega
          have f2 : IntKind.i64.wrap (d' : Int) = (d' : Int) := IntWalk.i64_in _ (by omega)
          have HD' : Hid (d' = D / 2 ^ (kk + 1)) := by
            show _ = _
            rw [hd', HD.out, Nat.div_div_eq_div_mul, Nat.pow_succ]
          have hd2 : d' < 256 := by omega
          clear hd'
          go_wp2
          go_round
          case rel => exact ⟨kk + 1, d', by omega, by go_num, rfl, hd2, HD'⟩
          case measure => simp [intOf] <;> omega
        · have hke : kk = r := by omega
          have hdk : decide ((kk : Int) < (r : Int)) = false := decide_eq_false (by omega)
          have hkI : (r : Int) ≤ (kk : Int) := by omega
          obtain ⟨d', hd'⟩ : ∃ d' : Nat, d' = d % 2 := ⟨_, rfl⟩
          have f1 : ((d : Nat) : Int).tmod 2 = (d' : Int) := by rw [Int.tmod_eq_emod_of_nonneg (by omega)]; omega
          have f2 : IntKind.i64.wrap (d' : Int) = (d' : Int) := IntWalk.i64_in _ (by omega)
          have HBit : Hid (bitB nl (254 - j) = (d' == 1)) := by
            show _ = _
            rw [HB.out, hd', HD.out, hke]
          have hcase : d' = 0 ∨ d' = 1 := by omega
          clear hke hd' HD HB
          rcases hcase with rfl | rfl
          · have hx := hX; have hz := hZ; have hs := hS; have ht := hT; have hw_ := hw'
            clear hX hZ hS hT hw'
            go_wp2_with fail
            refine (addR_any _ _ _ _ _ hx hz).mono ?_
            rintro e wq0 ⟨q0, rfl, h_sm, bn⟩
            replace hx := hx.kept bn
            replace hz := hz.kept bn
            replace hs := hs.kept bn
            replace ht := ht.kept bn
            replace hw_ := hw_.kept bn
            replace hn' := hn'.kept bn
            replace hbx := stepB hbx bn
            clear bn
            obtain ⟨n_sm, hn_sm⟩ : ∃ n : Nat, n = X + Z := ⟨_, rfl⟩
            rw [← hn_sm] at h_sm
            have E_sm : Hid _ := hn_sm
            clear hn_sm
            go_wp2_with fail
            refine (subR_any _ _ _ _ _ hx hz).mono ?_
            rintro e wq1 ⟨q1, rfl, h_df, bn⟩
            replace hs := hs.kept bn
            replace ht := ht.kept bn
            replace hw_ := hw_.kept bn
            replace h_sm := h_sm.kept bn
            replace hn' := hn'.kept bn
            replace hbx := stepB hbx bn
            clear bn hx hz
            obtain ⟨n_df, hn_df⟩ : ∃ n : Nat, n = X + (pN - Z % pN) := ⟨_, rfl⟩
            rw [← hn_df] at h_df
            have E_df : Hid _ := hn_df
            clear hn_df
            go_wp2_with fail
            refine (mulR_any _ _ _ _ _ h_sm h_sm).mono ?_
            rintro e wq2 ⟨q2, rfl, h_a, bn⟩
            replace hs := hs.kept bn
            replace ht := ht.kept bn
            replace hw_ := hw_.kept bn
            replace h_sm := h_sm.kept bn
            replace h_df := h_df.kept bn
            replace hn' := hn'.kept bn
            replace hbx := stepB hbx bn
            clear bn
            obtain ⟨n_a, hn_a⟩ : ∃ n : Nat, n = n_sm * n_sm := ⟨_, rfl⟩
            rw [← hn_a] at h_a
            have E_a : Hid _ := hn_a
            clear hn_a
            go_wp2_with fail
            refine (mulR_any _ _ _ _ _ h_df h_df).mono ?_
            rintro e wq3 ⟨q3, rfl, h_b, bn⟩
            replace hs := hs.kept bn
            replace ht := ht.kept bn
            replace hw_ := hw_.kept bn
            replace h_sm := h_sm.kept bn
            replace h_df := h_df.kept bn
            replace h_a := h_a.kept bn
            replace hn' := hn'.kept bn
            replace hbx := stepB hbx bn
            clear bn
            obtain ⟨n_b, hn_b⟩ : ∃ n : Nat, n = n_df * n_df := ⟨_, rfl⟩
            rw [← hn_b] at h_b
            have E_b : Hid _ := hn_b
            clear hn_b
            go_wp2_with fail
            refine (subR_any _ _ _ _ _ h_a h_b).mono ?_
            rintro e wq4 ⟨q4, rfl, h_e, bn⟩
            replace hs := hs.kept bn
            replace ht := ht.kept bn
            replace hw_ := hw_.kept bn
            replace h_sm := h_sm.kept bn
            replace h_df := h_df.kept bn
            replace h_a := h_a.kept bn
            replace h_b := h_b.kept bn
            replace hn' := hn'.kept bn
            replace hbx := stepB hbx bn
            clear bn
            obtain ⟨n_e, hn_e⟩ : ∃ n : Nat, n = n_a + (pN - n_b % pN) := ⟨_, rfl⟩
            rw [← hn_e] at h_e
            have E_e : Hid _ := hn_e
            clear hn_e
            go_wp2_with fail
            refine (subR_any _ _ _ _ _ hs ht).mono ?_
            rintro e wq5 ⟨q5, rfl, h_st, bn⟩
            replace hs := hs.kept bn
            replace ht := ht.kept bn
            replace hw_ := hw_.kept bn
            replace h_sm := h_sm.kept bn
            replace h_df := h_df.kept bn
            replace h_a := h_a.kept bn
            replace h_b := h_b.kept bn
            replace h_e := h_e.kept bn
            replace hn' := hn'.kept bn
            replace hbx := stepB hbx bn
            clear bn
            obtain ⟨n_st, hn_st⟩ : ∃ n : Nat, n = S + (pN - T % pN) := ⟨_, rfl⟩
            rw [← hn_st] at h_st
            have E_st : Hid _ := hn_st
            clear hn_st
            go_wp2_with fail
            refine (mulR_any _ _ _ _ _ h_sm h_st).mono ?_
            rintro e wq6 ⟨q6, rfl, h_c, bn⟩
            replace hs := hs.kept bn
            replace ht := ht.kept bn
            replace hw_ := hw_.kept bn
            replace h_df := h_df.kept bn
            replace h_a := h_a.kept bn
            replace h_b := h_b.kept bn
            replace h_e := h_e.kept bn
            replace hn' := hn'.kept bn
            replace hbx := stepB hbx bn
            clear bn h_sm h_st
            obtain ⟨n_c, hn_c⟩ : ∃ n : Nat, n = n_sm * n_st := ⟨_, rfl⟩
            rw [← hn_c] at h_c
            have E_c : Hid _ := hn_c
            clear hn_c
            go_wp2_with fail
            refine (addR_any _ _ _ _ _ hs ht).mono ?_
            rintro e wq7 ⟨q7, rfl, h_dt, bn⟩
            replace hw_ := hw_.kept bn
            replace h_df := h_df.kept bn
            replace h_a := h_a.kept bn
            replace h_b := h_b.kept bn
            replace h_e := h_e.kept bn
            replace h_c := h_c.kept bn
            replace hn' := hn'.kept bn
            replace hbx := stepB hbx bn
            clear bn hs ht
            obtain ⟨n_dt, hn_dt⟩ : ∃ n : Nat, n = S + T := ⟨_, rfl⟩
            rw [← hn_dt] at h_dt
            have E_dt : Hid _ := hn_dt
            clear hn_dt
            go_wp2_with fail
            refine (mulR_any _ _ _ _ _ h_df h_dt).mono ?_
            rintro e wq8 ⟨q8, rfl, h_f, bn⟩
            replace hw_ := hw_.kept bn
            replace h_a := h_a.kept bn
            replace h_b := h_b.kept bn
            replace h_e := h_e.kept bn
            replace h_c := h_c.kept bn
            replace hn' := hn'.kept bn
            replace hbx := stepB hbx bn
            clear bn h_df h_dt
            obtain ⟨n_f, hn_f⟩ : ∃ n : Nat, n = n_df * n_dt := ⟨_, rfl⟩
            rw [← hn_f] at h_f
            have E_f : Hid _ := hn_f
            clear hn_f
            go_wp2_with fail
            refine (mulR_any _ _ _ _ _ h_a h_b).mono ?_
            rintro e wq9 ⟨q9, rfl, h_nx, bn⟩
            replace hw_ := hw_.kept bn
            replace h_a := h_a.kept bn
            replace h_e := h_e.kept bn
            replace h_c := h_c.kept bn
            replace h_f := h_f.kept bn
            replace hn' := hn'.kept bn
            replace hbx := stepB hbx bn
            clear bn h_b
            obtain ⟨n_nx, hn_nx⟩ : ∃ n : Nat, n = n_a * n_b := ⟨_, rfl⟩
            rw [← hn_nx] at h_nx
            have E_nx : Hid _ := hn_nx
            clear hn_nx
            go_wp2_with fail
            refine (smallR_any 121665 (by omega) _ rfl _).mono ?_
            rintro e wq10 ⟨q10, rfl, h_k1, bn⟩
            replace hw_ := hw_.kept bn
            replace h_a := h_a.kept bn
            replace h_e := h_e.kept bn
            replace h_c := h_c.kept bn
            replace h_f := h_f.kept bn
            replace h_nx := h_nx.kept bn
            replace hn' := hn'.kept bn
            replace hbx := stepB hbx bn
            clear bn
            go_wp2_with fail
            refine (mulR_any _ _ _ _ _ h_k1 h_e).mono ?_
            rintro e wq11 ⟨q11, rfl, h_m1, bn⟩
            replace hw_ := hw_.kept bn
            replace h_a := h_a.kept bn
            replace h_e := h_e.kept bn
            replace h_c := h_c.kept bn
            replace h_f := h_f.kept bn
            replace h_nx := h_nx.kept bn
            replace hn' := hn'.kept bn
            replace hbx := stepB hbx bn
            clear bn h_k1
            obtain ⟨n_m1, hn_m1⟩ : ∃ n : Nat, n = 121665 * n_e := ⟨_, rfl⟩
            rw [← hn_m1] at h_m1
            have E_m1 : Hid _ := hn_m1
            clear hn_m1
            go_wp2_with fail
            refine (addR_any _ _ _ _ _ h_a h_m1).mono ?_
            rintro e wq12 ⟨q12, rfl, h_m2, bn⟩
            replace hw_ := hw_.kept bn
            replace h_e := h_e.kept bn
            replace h_c := h_c.kept bn
            replace h_f := h_f.kept bn
            replace h_nx := h_nx.kept bn
            replace hn' := hn'.kept bn
            replace hbx := stepB hbx bn
            clear bn h_a h_m1
            obtain ⟨n_m2, hn_m2⟩ : ∃ n : Nat, n = n_a + n_m1 := ⟨_, rfl⟩
            rw [← hn_m2] at h_m2
            have E_m2 : Hid _ := hn_m2
            clear hn_m2
            go_wp2_with fail
            refine (mulR_any _ _ _ _ _ h_e h_m2).mono ?_
            rintro e wq13 ⟨q13, rfl, h_nz, bn⟩
            replace hw_ := hw_.kept bn
            replace h_c := h_c.kept bn
            replace h_f := h_f.kept bn
            replace h_nx := h_nx.kept bn
            replace hn' := hn'.kept bn
            replace hbx := stepB hbx bn
            clear bn h_e h_m2
            obtain ⟨n_nz, hn_nz⟩ : ∃ n : Nat, n = n_e * n_m2 := ⟨_, rfl⟩
            rw [← hn_nz] at h_nz
            have E_nz : Hid _ := hn_nz
            clear hn_nz
            go_wp2_with fail
            refine (addR_any _ _ _ _ _ h_c h_f).mono ?_
            rintro e wq14 ⟨q14, rfl, h_g, bn⟩
            replace hw_ := hw_.kept bn
            replace h_c := h_c.kept bn
            replace h_f := h_f.kept bn
            replace h_nx := h_nx.kept bn
            replace h_nz := h_nz.kept bn
            replace hn' := hn'.kept bn
            replace hbx := stepB hbx bn
            clear bn
            obtain ⟨n_g, hn_g⟩ : ∃ n : Nat, n = n_c + n_f := ⟨_, rfl⟩
            rw [← hn_g] at h_g
            have E_g : Hid _ := hn_g
            clear hn_g
            go_wp2_with fail
            refine (subR_any _ _ _ _ _ h_c h_f).mono ?_
            rintro e wq15 ⟨q15, rfl, h_k, bn⟩
            replace hw_ := hw_.kept bn
            replace h_nx := h_nx.kept bn
            replace h_nz := h_nz.kept bn
            replace h_g := h_g.kept bn
            replace hn' := hn'.kept bn
            replace hbx := stepB hbx bn
            clear bn h_c h_f
            obtain ⟨n_k, hn_k⟩ : ∃ n : Nat, n = n_c + (pN - n_f % pN) := ⟨_, rfl⟩
            rw [← hn_k] at h_k
            have E_k : Hid _ := hn_k
            clear hn_k
            go_wp2_with fail
            refine (mulR_any _ _ _ _ _ h_g h_g).mono ?_
            rintro e wq16 ⟨q16, rfl, h_ns, bn⟩
            replace hw_ := hw_.kept bn
            replace h_nx := h_nx.kept bn
            replace h_nz := h_nz.kept bn
            replace h_k := h_k.kept bn
            replace hn' := hn'.kept bn
            replace hbx := stepB hbx bn
            clear bn h_g
            obtain ⟨n_ns, hn_ns⟩ : ∃ n : Nat, n = n_g * n_g := ⟨_, rfl⟩
            rw [← hn_ns] at h_ns
            have E_ns : Hid _ := hn_ns
            clear hn_ns
            go_wp2_with fail
            refine (mulR_any _ _ _ _ _ h_k h_k).mono ?_
            rintro e wq17 ⟨q17, rfl, h_hh, bn⟩
            replace hw_ := hw_.kept bn
            replace h_nx := h_nx.kept bn
            replace h_nz := h_nz.kept bn
            replace h_ns := h_ns.kept bn
            replace hn' := hn'.kept bn
            replace hbx := stepB hbx bn
            clear bn h_k
            obtain ⟨n_hh, hn_hh⟩ : ∃ n : Nat, n = n_k * n_k := ⟨_, rfl⟩
            rw [← hn_hh] at h_hh
            have E_hh : Hid _ := hn_hh
            clear hn_hh
            go_wp2_with fail
            refine (mulR_any _ _ _ _ _ hw_ h_hh).mono ?_
            rintro e wq18 ⟨q18, rfl, h_nt, bn⟩
            replace hw_ := hw_.kept bn
            replace h_nx := h_nx.kept bn
            replace h_nz := h_nz.kept bn
            replace h_ns := h_ns.kept bn
            replace hn' := hn'.kept bn
            replace hbx := stepB hbx bn
            clear bn h_hh
            obtain ⟨n_nt, hn_nt⟩ : ∃ n : Nat, n = W * n_hh := ⟨_, rfl⟩
            rw [← hn_nt] at h_nt
            have E_nt : Hid _ := hn_nt
            clear hn_nt
            have HQ2 : Hid (Lq n_nx n_nz n_ns n_nt (ldN (fv W) (bitB nl) (j + 1))) := HQ.out.next HBit.out (fun h => (h.step E_sm.out E_df.out E_a.out E_b.out E_e.out E_st.out E_c.out E_dt.out E_f.out E_nx.out E_m1.out E_m2.out E_nz.out E_g.out E_k.out E_ns.out E_hh.out E_nt.out))
            clear HQ HBit E_sm E_df E_a E_b E_e E_st E_c E_dt E_f E_nx E_m1 E_m2 E_nz E_g E_k E_ns E_hh E_nt
            go_wp2
            go_roundw
            case rel => exact ⟨i, j + 1, n_nx, n_nz, n_ns, n_nt, by omega, by go_num, h_nx, h_nz, h_ns, h_nt, hw_, hn', HQ2, hbx⟩
            case measure => simp [intOf] <;> omega
          · have hx := hS; have hz := hT; have hs := hX; have ht := hZ; have hw_ := hw'
            clear hX hZ hS hT hw'
            go_wp2_with fail
            refine (addR_any _ _ _ _ _ hx hz).mono ?_
            rintro e wq0 ⟨q0, rfl, h_sm, bn⟩
            replace hx := hx.kept bn
            replace hz := hz.kept bn
            replace hs := hs.kept bn
            replace ht := ht.kept bn
            replace hw_ := hw_.kept bn
            replace hn' := hn'.kept bn
            replace hbx := stepB hbx bn
            clear bn
            obtain ⟨n_sm, hn_sm⟩ : ∃ n : Nat, n = S + T := ⟨_, rfl⟩
            rw [← hn_sm] at h_sm
            have E_sm : Hid _ := hn_sm
            clear hn_sm
            go_wp2_with fail
            refine (subR_any _ _ _ _ _ hx hz).mono ?_
            rintro e wq1 ⟨q1, rfl, h_df, bn⟩
            replace hs := hs.kept bn
            replace ht := ht.kept bn
            replace hw_ := hw_.kept bn
            replace h_sm := h_sm.kept bn
            replace hn' := hn'.kept bn
            replace hbx := stepB hbx bn
            clear bn hx hz
            obtain ⟨n_df, hn_df⟩ : ∃ n : Nat, n = S + (pN - T % pN) := ⟨_, rfl⟩
            rw [← hn_df] at h_df
            have E_df : Hid _ := hn_df
            clear hn_df
            go_wp2_with fail
            refine (mulR_any _ _ _ _ _ h_sm h_sm).mono ?_
            rintro e wq2 ⟨q2, rfl, h_a, bn⟩
            replace hs := hs.kept bn
            replace ht := ht.kept bn
            replace hw_ := hw_.kept bn
            replace h_sm := h_sm.kept bn
            replace h_df := h_df.kept bn
            replace hn' := hn'.kept bn
            replace hbx := stepB hbx bn
            clear bn
            obtain ⟨n_a, hn_a⟩ : ∃ n : Nat, n = n_sm * n_sm := ⟨_, rfl⟩
            rw [← hn_a] at h_a
            have E_a : Hid _ := hn_a
            clear hn_a
            go_wp2_with fail
            refine (mulR_any _ _ _ _ _ h_df h_df).mono ?_
            rintro e wq3 ⟨q3, rfl, h_b, bn⟩
            replace hs := hs.kept bn
            replace ht := ht.kept bn
            replace hw_ := hw_.kept bn
            replace h_sm := h_sm.kept bn
            replace h_df := h_df.kept bn
            replace h_a := h_a.kept bn
            replace hn' := hn'.kept bn
            replace hbx := stepB hbx bn
            clear bn
            obtain ⟨n_b, hn_b⟩ : ∃ n : Nat, n = n_df * n_df := ⟨_, rfl⟩
            rw [← hn_b] at h_b
            have E_b : Hid _ := hn_b
            clear hn_b
            go_wp2_with fail
            refine (subR_any _ _ _ _ _ h_a h_b).mono ?_
            rintro e wq4 ⟨q4, rfl, h_e, bn⟩
            replace hs := hs.kept bn
            replace ht := ht.kept bn
            replace hw_ := hw_.kept bn
            replace h_sm := h_sm.kept bn
            replace h_df := h_df.kept bn
            replace h_a := h_a.kept bn
            replace h_b := h_b.kept bn
            replace hn' := hn'.kept bn
            replace hbx := stepB hbx bn
            clear bn
            obtain ⟨n_e, hn_e⟩ : ∃ n : Nat, n = n_a + (pN - n_b % pN) := ⟨_, rfl⟩
            rw [← hn_e] at h_e
            have E_e : Hid _ := hn_e
            clear hn_e
            go_wp2_with fail
            refine (subR_any _ _ _ _ _ hs ht).mono ?_
            rintro e wq5 ⟨q5, rfl, h_st, bn⟩
            replace hs := hs.kept bn
            replace ht := ht.kept bn
            replace hw_ := hw_.kept bn
            replace h_sm := h_sm.kept bn
            replace h_df := h_df.kept bn
            replace h_a := h_a.kept bn
            replace h_b := h_b.kept bn
            replace h_e := h_e.kept bn
            replace hn' := hn'.kept bn
            replace hbx := stepB hbx bn
            clear bn
            obtain ⟨n_st, hn_st⟩ : ∃ n : Nat, n = X + (pN - Z % pN) := ⟨_, rfl⟩
            rw [← hn_st] at h_st
            have E_st : Hid _ := hn_st
            clear hn_st
            go_wp2_with fail
            refine (mulR_any _ _ _ _ _ h_sm h_st).mono ?_
            rintro e wq6 ⟨q6, rfl, h_c, bn⟩
            replace hs := hs.kept bn
            replace ht := ht.kept bn
            replace hw_ := hw_.kept bn
            replace h_df := h_df.kept bn
            replace h_a := h_a.kept bn
            replace h_b := h_b.kept bn
            replace h_e := h_e.kept bn
            replace hn' := hn'.kept bn
            replace hbx := stepB hbx bn
            clear bn h_sm h_st
            obtain ⟨n_c, hn_c⟩ : ∃ n : Nat, n = n_sm * n_st := ⟨_, rfl⟩
            rw [← hn_c] at h_c
            have E_c : Hid _ := hn_c
            clear hn_c
            go_wp2_with fail
            refine (addR_any _ _ _ _ _ hs ht).mono ?_
            rintro e wq7 ⟨q7, rfl, h_dt, bn⟩
            replace hw_ := hw_.kept bn
            replace h_df := h_df.kept bn
            replace h_a := h_a.kept bn
            replace h_b := h_b.kept bn
            replace h_e := h_e.kept bn
            replace h_c := h_c.kept bn
            replace hn' := hn'.kept bn
            replace hbx := stepB hbx bn
            clear bn hs ht
            obtain ⟨n_dt, hn_dt⟩ : ∃ n : Nat, n = X + Z := ⟨_, rfl⟩
            rw [← hn_dt] at h_dt
            have E_dt : Hid _ := hn_dt
            clear hn_dt
            go_wp2_with fail
            refine (mulR_any _ _ _ _ _ h_df h_dt).mono ?_
            rintro e wq8 ⟨q8, rfl, h_f, bn⟩
            replace hw_ := hw_.kept bn
            replace h_a := h_a.kept bn
            replace h_b := h_b.kept bn
            replace h_e := h_e.kept bn
            replace h_c := h_c.kept bn
            replace hn' := hn'.kept bn
            replace hbx := stepB hbx bn
            clear bn h_df h_dt
            obtain ⟨n_f, hn_f⟩ : ∃ n : Nat, n = n_df * n_dt := ⟨_, rfl⟩
            rw [← hn_f] at h_f
            have E_f : Hid _ := hn_f
            clear hn_f
            go_wp2_with fail
            refine (mulR_any _ _ _ _ _ h_a h_b).mono ?_
            rintro e wq9 ⟨q9, rfl, h_nx, bn⟩
            replace hw_ := hw_.kept bn
            replace h_a := h_a.kept bn
            replace h_e := h_e.kept bn
            replace h_c := h_c.kept bn
            replace h_f := h_f.kept bn
            replace hn' := hn'.kept bn
            replace hbx := stepB hbx bn
            clear bn h_b
            obtain ⟨n_nx, hn_nx⟩ : ∃ n : Nat, n = n_a * n_b := ⟨_, rfl⟩
            rw [← hn_nx] at h_nx
            have E_nx : Hid _ := hn_nx
            clear hn_nx
            go_wp2_with fail
            refine (smallR_any 121665 (by omega) _ rfl _).mono ?_
            rintro e wq10 ⟨q10, rfl, h_k1, bn⟩
            replace hw_ := hw_.kept bn
            replace h_a := h_a.kept bn
            replace h_e := h_e.kept bn
            replace h_c := h_c.kept bn
            replace h_f := h_f.kept bn
            replace h_nx := h_nx.kept bn
            replace hn' := hn'.kept bn
            replace hbx := stepB hbx bn
            clear bn
            go_wp2_with fail
            refine (mulR_any _ _ _ _ _ h_k1 h_e).mono ?_
            rintro e wq11 ⟨q11, rfl, h_m1, bn⟩
            replace hw_ := hw_.kept bn
            replace h_a := h_a.kept bn
            replace h_e := h_e.kept bn
            replace h_c := h_c.kept bn
            replace h_f := h_f.kept bn
            replace h_nx := h_nx.kept bn
            replace hn' := hn'.kept bn
            replace hbx := stepB hbx bn
            clear bn h_k1
            obtain ⟨n_m1, hn_m1⟩ : ∃ n : Nat, n = 121665 * n_e := ⟨_, rfl⟩
            rw [← hn_m1] at h_m1
            have E_m1 : Hid _ := hn_m1
            clear hn_m1
            go_wp2_with fail
            refine (addR_any _ _ _ _ _ h_a h_m1).mono ?_
            rintro e wq12 ⟨q12, rfl, h_m2, bn⟩
            replace hw_ := hw_.kept bn
            replace h_e := h_e.kept bn
            replace h_c := h_c.kept bn
            replace h_f := h_f.kept bn
            replace h_nx := h_nx.kept bn
            replace hn' := hn'.kept bn
            replace hbx := stepB hbx bn
            clear bn h_a h_m1
            obtain ⟨n_m2, hn_m2⟩ : ∃ n : Nat, n = n_a + n_m1 := ⟨_, rfl⟩
            rw [← hn_m2] at h_m2
            have E_m2 : Hid _ := hn_m2
            clear hn_m2
            go_wp2_with fail
            refine (mulR_any _ _ _ _ _ h_e h_m2).mono ?_
            rintro e wq13 ⟨q13, rfl, h_nz, bn⟩
            replace hw_ := hw_.kept bn
            replace h_c := h_c.kept bn
            replace h_f := h_f.kept bn
            replace h_nx := h_nx.kept bn
            replace hn' := hn'.kept bn
            replace hbx := stepB hbx bn
            clear bn h_e h_m2
            obtain ⟨n_nz, hn_nz⟩ : ∃ n : Nat, n = n_e * n_m2 := ⟨_, rfl⟩
            rw [← hn_nz] at h_nz
            have E_nz : Hid _ := hn_nz
            clear hn_nz
            go_wp2_with fail
            refine (addR_any _ _ _ _ _ h_c h_f).mono ?_
            rintro e wq14 ⟨q14, rfl, h_g, bn⟩
            replace hw_ := hw_.kept bn
            replace h_c := h_c.kept bn
            replace h_f := h_f.kept bn
            replace h_nx := h_nx.kept bn
            replace h_nz := h_nz.kept bn
            replace hn' := hn'.kept bn
            replace hbx := stepB hbx bn
            clear bn
            obtain ⟨n_g, hn_g⟩ : ∃ n : Nat, n = n_c + n_f := ⟨_, rfl⟩
            rw [← hn_g] at h_g
            have E_g : Hid _ := hn_g
            clear hn_g
            go_wp2_with fail
            refine (subR_any _ _ _ _ _ h_c h_f).mono ?_
            rintro e wq15 ⟨q15, rfl, h_k, bn⟩
            replace hw_ := hw_.kept bn
            replace h_nx := h_nx.kept bn
            replace h_nz := h_nz.kept bn
            replace h_g := h_g.kept bn
            replace hn' := hn'.kept bn
            replace hbx := stepB hbx bn
            clear bn h_c h_f
            obtain ⟨n_k, hn_k⟩ : ∃ n : Nat, n = n_c + (pN - n_f % pN) := ⟨_, rfl⟩
            rw [← hn_k] at h_k
            have E_k : Hid _ := hn_k
            clear hn_k
            go_wp2_with fail
            refine (mulR_any _ _ _ _ _ h_g h_g).mono ?_
            rintro e wq16 ⟨q16, rfl, h_ns, bn⟩
            replace hw_ := hw_.kept bn
            replace h_nx := h_nx.kept bn
            replace h_nz := h_nz.kept bn
            replace h_k := h_k.kept bn
            replace hn' := hn'.kept bn
            replace hbx := stepB hbx bn
            clear bn h_g
            obtain ⟨n_ns, hn_ns⟩ : ∃ n : Nat, n = n_g * n_g := ⟨_, rfl⟩
            rw [← hn_ns] at h_ns
            have E_ns : Hid _ := hn_ns
            clear hn_ns
            go_wp2_with fail
            refine (mulR_any _ _ _ _ _ h_k h_k).mono ?_
            rintro e wq17 ⟨q17, rfl, h_hh, bn⟩
            replace hw_ := hw_.kept bn
            replace h_nx := h_nx.kept bn
            replace h_nz := h_nz.kept bn
            replace h_ns := h_ns.kept bn
            replace hn' := hn'.kept bn
            replace hbx := stepB hbx bn
            clear bn h_k
            obtain ⟨n_hh, hn_hh⟩ : ∃ n : Nat, n = n_k * n_k := ⟨_, rfl⟩
            rw [← hn_hh] at h_hh
            have E_hh : Hid _ := hn_hh
            clear hn_hh
            go_wp2_with fail
            refine (mulR_any _ _ _ _ _ hw_ h_hh).mono ?_
            rintro e wq18 ⟨q18, rfl, h_nt, bn⟩
            replace hw_ := hw_.kept bn
            replace h_nx := h_nx.kept bn
            replace h_nz := h_nz.kept bn
            replace h_ns := h_ns.kept bn
            replace hn' := hn'.kept bn
            replace hbx := stepB hbx bn
            clear bn h_hh
            obtain ⟨n_nt, hn_nt⟩ : ∃ n : Nat, n = W * n_hh := ⟨_, rfl⟩
            rw [← hn_nt] at h_nt
            have E_nt : Hid _ := hn_nt
            clear hn_nt
            have HQ2 : Hid (Lq n_ns n_nt n_nx n_nz (ldN (fv W) (bitB nl) (j + 1))) := HQ.out.next1 HBit.out (fun h => (h.step E_sm.out E_df.out E_a.out E_b.out E_e.out E_st.out E_c.out E_dt.out E_f.out E_nx.out E_m1.out E_m2.out E_nz.out E_g.out E_k.out E_ns.out E_hh.out E_nt.out))
            clear HQ HBit E_sm E_df E_a E_b E_e E_st E_c E_dt E_f E_nx E_m1 E_m2 E_nz E_g E_k E_ns E_hh E_nt
            go_wp2
            go_roundw
            case rel => exact ⟨i, j + 1, n_ns, n_nt, n_nx, n_nz, by omega, by go_num, h_ns, h_nt, h_nx, h_nz, hw_, hn', HQ2, hbx⟩
            case measure => simp [intOf] <;> omega
end Go.Proofs.Ythokfcmnijpkhaa
