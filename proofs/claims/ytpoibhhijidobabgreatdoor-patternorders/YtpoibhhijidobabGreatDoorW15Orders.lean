/- What the law PatternOrders answers at every input: the walk. -/
import Derived.Test.YtpoibhhijidobabGreatDoorAw15
import Derived.Test.YtpoibhhijidobabGreatDoorL15c
import Derived.Test.YtpoibhhijidobabGreatDoorBase
namespace Go.Proofs.YtpoibhhijidobabGreatDoor
open Go.ChangeShapes Go.WideShapes Go.ChangeAt Go.RowKit
set_option linter.unusedSimpArgs false
set_option linter.unusedVariables false

/-- The turned messages' cells: of the first i. -/
def tuX (p : Ptn) (f : Nat → Value) : Nat → List Value
  | 0 => []
  | i + 1 => tuX p f i ++ [.bool (!p.ini i), f i]
theorem tuX_len (p : Ptn) (f : Nat → Value) : ∀ i, (tuX p f i).length = i * 2
  | 0 => rfl
  | i + 1 => by
    show (tuX p f i ++ _).length = _
    rw [List.length_append, tuX_len p f i]
    show i * 2 + 2 = (i + 1) * 2
    omega
theorem tuX_at (p : Ptn) (f : Nat → Value) : ∀ i k, k < i → (tuX p f i)[2 * k]? = some (.bool (!p.ini k)) ∧ (tuX p f i)[2 * k + 1]? = some (f k)
  | 0, k, h => absurd h (by omega)
  | i + 1, k, h => by
    have hl := tuX_len p f i
    show (tuX p f i ++ [.bool (!p.ini i), f i])[2 * k]? = _ ∧ (tuX p f i ++ [.bool (!p.ini i), f i])[2 * k + 1]? = _
    by_cases hk : k < i
    · rw [List.getElem?_append_left (by omega), List.getElem?_append_left (by omega)]
      exact tuX_at p f i k hk
    · have e : k = i := by omega
      subst e
      rw [List.getElem?_append_right (by omega), List.getElem?_append_right (by omega), hl, show 2 * k - k * 2 = 0 by omega, show 2 * k + 1 - k * 2 = 1 by omega]
      exact ⟨rfl, rfl⟩
theorem tu_n (p : Ptn) : (tuP p).n = p.n := by unfold tuP Ptn.n; simp
theorem tu_ini (p : Ptn) {k : Nat} (h : k < p.n) : (tuP p).ini k = !p.ini k := by
  have h2 : k < p.ms.length := h
  unfold tuP Ptn.ini
  simp [h2]
theorem tu_tk (p : Ptn) (k : Nat) : (tuP p).tk k = p.tk k := by
  unfold tuP Ptn.tk
  by_cases h : k < p.ms.length
  · simp [h]
  · simp [List.getD, List.getElem?_eq_none (show p.ms.length ≤ k by omega)]
/-- The messages, with the slices of their tokens by a function. -/
theorem ms_fun {w : World} {a : Option Addr} {cap : Nat} {p : Ptn} (h : MsR w (.slice a p.n cap) p) : ∃ f : Nat → Value, ∀ k, k < p.n → ∃ b off c t, a = some ⟨b, off, none⟩ ∧ w.cell? ⟨b, off + k * 2, none⟩ = some (.bool (p.ini k)) ∧ w.cell? ⟨b, off + k * 2 + 1, none⟩ = some (f k) ∧ f k = .slice t (p.tk k).length c ∧ RdI .i64 w (f k) (p.tk k) := by
  have hx : ∀ k : Nat, ∃ v : Value, k < p.n → ∃ b off c t, a = some ⟨b, off, none⟩ ∧ w.cell? ⟨b, off + k * 2, none⟩ = some (.bool (p.ini k)) ∧ w.cell? ⟨b, off + k * 2 + 1, none⟩ = some v ∧ v = .slice t (p.tk k).length c ∧ RdI .i64 w v (p.tk k) := by
    intro k
    by_cases hk : k < p.n
    · obtain ⟨b, off, a', c', e, h1, h2, h3, -, -⟩ := ms_at h hk
      exact ⟨_, fun _ => ⟨b, off, c', a', e, h1, h2, rfl, h3⟩⟩
    · exact ⟨.bool false, fun h => absurd h hk⟩
  obtain ⟨f, hf⟩ := Classical.axiomOfChoice hx
  exact ⟨f, hf⟩
/-- The turned pattern's messages. -/
theorem tu_ms {w : World} {v : Value} {p : Ptn} {f : Nat → Value} (h : RdE w v 2 p.n (tuX p f p.n)) (hf : ∀ k, k < p.n → RdI .i64 w (f k) (p.tk k)) : MsR w v (tuP p) := by
  obtain ⟨-, a, cap, rfl, h1, h2, -⟩ := id h
  refine ⟨a, cap, by rw [tu_n], by rw [tu_n]; exact h1, h2, ?_⟩
  rw [tu_n]
  by_cases h0 : p.n = 0
  · exact .inl h0
  · right
    have hl := tuX_len p f p.n
    obtain ⟨b, off, e, -⟩ := h.cellAt (i := 0) (by omega)
    refine ⟨b, off, e, fun k hk => ⟨f k, ?_, ?_, ?_⟩⟩
    · obtain ⟨b1, o1, e1, c1⟩ := h.cellAt (i := 2 * k) (by omega)
      rw [e] at e1
      simp only [Option.some.injEq, Addr.mk.injEq, and_true] at e1
      obtain ⟨rfl, rfl⟩ := e1
      rw [c1, tu_ini p hk, ← (tuX_at p f p.n k hk).1]
      exact (List.getElem?_eq_getElem (by omega)).symm
    · obtain ⟨b1, o1, e1, c1⟩ := h.cellAt (i := 2 * k + 1) (by omega)
      rw [e] at e1
      simp only [Option.some.injEq, Addr.mk.injEq, and_true] at e1
      obtain ⟨rfl, rfl⟩ := e1
      rw [c1, ← (tuX_at p f p.n k hk).2]
      exact (List.getElem?_eq_getElem (by omega)).symm
    · rw [tu_tk]
      exact hf k hk
/-- The first messages. -/
theorem cu_ms {w : World} {a : Option Addr} {cap : Nat} {p : Ptn} {k : Nat} (h : MsR w (.slice a p.n cap) p) (hk : k ≤ p.n) : MsR w (.slice a k cap) (cuP15 p k) := by
  obtain ⟨a', cap', ev, h1, h2, h3⟩ := h.form
  simp only [Value.slice.injEq] at ev
  obtain ⟨rfl, -, rfl⟩ := ev
  refine ⟨a, cap, by rw [cu_n p hk], by rw [cu_n p hk]; omega, h2, ?_⟩
  rw [cu_n p hk]
  rcases h3 with h3 | ⟨b, off, e, hc⟩
  · exact .inl (by omega)
  · refine .inr ⟨b, off, e, fun j hj => ?_⟩
    obtain ⟨vt, c1, c2, c3⟩ := hc j (by omega)
    refine ⟨vt, ?_, c2, ?_⟩
    · rw [cu_ini p hj]; exact c1
    · rw [cu_tk p hj]; exact c3
theorem ck_zero {p : Ptn} (h : ckA p = 0) : wrB p = true ∧ ckQ p = true := by
  rw [ckA_eq] at h
  unfold ckP at h
  by_cases hw : wrB p = true
  · rw [if_pos hw] at h
    by_cases hq : ckQ p = true
    · exact ⟨hw, hq⟩
    · rw [if_neg hq] at h
      exact absurd h (by decide)
  · rw [if_neg hw] at h
    exact absurd h (by decide)
theorem cu_zero {p : Ptn} (h : ckA p = 0) {k : Nat} (h1 : 1 ≤ k) (hk : k ≤ p.n) : ckA (cuP15 p k) = 0 := by
  obtain ⟨hw, hq⟩ := ck_zero h
  rw [ckA_eq]
  unfold ckP
  rw [if_pos (cu_wrB p h1 hk hw), if_pos (cu_ckB p hk hq)]
theorem tu_bad {p : Ptn} (h : ckA p = 0) : ckA (tuP p) = 21 := by
  obtain ⟨hw, hq⟩ := ck_zero h
  rw [ckA_eq]
  unfold ckP
  rw [if_pos (tu_wrB p hw), if_neg (by rw [tu_ckB p (PtS.of hw).one hq]; decide)]
theorem build_pa (s : ByteArray) (a b : Bool) (x : Option Addr) (n c : Nat) (w : World) : (Instr.build 25 #[(0, .string s), (1, .agg #[.bool a, .bool b]), (2, .slice x n c)]).run Tryz.prog w = .ok (.agg #[.string s, .bool a, .bool b, .slice x n c]) w := by kernel_rfl
theorem build_msO (q : Bool) (x : Option Addr) (n c : Nat) (w : World) : (Instr.build 48 #[(0, .bool q), (1, .slice x n c)]).run Tryz.prog w = .ok (.agg #[.bool q, .slice x n c]) w := by kernel_rfl
theorem infoMs3 : (Tryz.prog.info? 48).map (fun i => (i.zero, i.size, i.bytes)) = some (some (.agg #[.bool false, .slice none 0 0]), 2, 32) := by kernel_rfl
theorem oneMs (q : Bool) (x : Option Addr) (n c : Nat) : ∀ u ∈ ([.bool q, .slice x n c] : List Value), u.oneCell' = true := by
  intro u hu
  simp only [List.mem_cons, List.not_mem_nil, or_false] at hu
  rcases hu with rfl | rfl <;> rfl
/-- What is read of a message while the turned ones are made. -/
structure Om (g b o : Nat) (vm : Value) (q : Bool) (vt : Value) (W : World) : Prop where
  box : W.cell? ⟨g, 3, none⟩ = some vm
  ini : W.cell? ⟨b, o, none⟩ = some (.bool q)
  tok : W.cell? ⟨b, o + 1, none⟩ = some vt
theorem Om.kept {g b o : Nat} {vm vt : Value} {q : Bool} {W W' : World} (h : Om g b o vm q vt W) (hb : Below W.heap.size W W') : Om g b o vm q vt W' := ⟨cellKP h.box hb, cellKP h.ini hb, cellKP h.tok hb⟩
theorem Om.chg {S : Nat → Prop} {g b o : Nat} {vm vt : Value} {q : Bool} {W W' : World} (h : Om g b o vm q vt W) (c : Chg S W W') (h1 : ¬ S g) (h2 : ¬ S b) : Om g b o vm q vt W' := ⟨cell_chg c h.box h1, cell_chg c h.ini h2, cell_chg c h.tok h2⟩
set_option maxRecDepth 100000 in
set_option maxHeartbeats 8000000 in
theorem orders_walk (p : Ptn) (vm : Value) (A : Array Value) (hA : A = (paC p vm).toArray) (z : Int) (hnm : p.name.length ≤ maxLen) (hz : (Lit.int .i64 z).wf = true) (w : World) (h : MsR w vm p) (hT : TkT w) :
    Calls Tryz.prog 6 #[.agg A, .int .i64 z] w fun e w' => e = .returned (.bool true) ∧ Below w.heap.size w w' := by
  obtain ⟨ti, hti, hz0, hz1, hz2⟩ := info_parts infoMs3
  obtain ⟨am, cap, rfl, hl, hcap, -⟩ := id h.form
  obtain ⟨n, hn⟩ : ∃ n : Nat, n = p.n := ⟨_, rfl⟩
  have HN : Hid (n = p.n) := hn
  rw [← hn] at h hA hl
  have HM : Hid (MsR w (.slice am n cap) p) := h
  have HT : Hid (TkT w) := hT
  have HL : Hid (p.name.length ≤ maxLen) := hnm
  unfold maxLen at hcap
  obtain ⟨X, hX, hXa⟩ := and_small z 255 (by decide)
  have hXa' : bits .and .i64 z 255 = (X : Int) := hXa
  clear hT h hnm hn hXa hz
  go_enter Tryz.func6, Tryz.ntmps6
  go_wp2_with (refine wpList_box_blk rfl 25 _ rfl (paC p (.slice am n cap)) (by rw [← hA]; rfl) ?_)
  intro w1 r1 b1 s1
  clear s1 hA
  go_wp2_with fail
  refine (awake_any _ (HT.out.kept b1)).mono ?_
  rintro e w2 ⟨rfl, b2⟩
  replace r1 := r1.kept b2
  have hbw := stepB b1 b2
  clear b1 b2
  go_wp2_with (refine wpList_load_part rfl 25 _ rfl rfl [] (paC p (.slice am n cap)) [] r1 (whole15 _) rfl Tryz.underlying25 rfl (paInfo p _) ?_)
  refine (few_any p _ _ rfl HL.out _ (HM.out.kept hbw)).mono ?_
  rintro e w3 ⟨rfl, b3⟩
  replace r1 := r1.kept b3
  replace hbw := stepB hbw b3
  clear b3
  obtain ⟨f, hf⟩ : ∃ f : Bool, f = fwB p := ⟨_, rfl⟩
  rw [← hf]
  cases f with
  | false =>
    clear hf
    go_wp2
    go_ret
    exact ⟨rfl, hbw⟩
  | true =>
    clear hf
    go_wp2_with (refine wpList_loadG 25 _ rfl rfl (paC p (.slice am n cap)) r1 Tryz.underlying25 rfl (paInfo p _) (by go_simp; done) ?_)
    refine (check_any p _ _ rfl HL.out _ (HM.out.kept hbw)).mono ?_
    rintro e w4 ⟨rfl, b4⟩
    replace r1 := r1.kept b4
    replace hbw := stepB hbw b4
    clear b4
    obtain ⟨C, hC⟩ : ∃ c : Int, c = ckA p := ⟨_, rfl⟩
    rw [← hC]
    by_cases hc0 : C = 0
    · subst hc0
      have HC : Hid (ckA p = 0) := hC.symm
      have HW : Hid (PtS p) := PtS.of (ck_zero hC.symm).1
      have hn1 : 1 ≤ n := by rw [HN.out]; exact HW.out.one
      have hn8 : n ≤ 8 := by rw [HN.out]; exact HW.out.n
      clear hC
      have m3 : w4.cell? ⟨w.heap.size, 3, none⟩ = some (.slice am n cap) := r1.cell 3
      obtain ⟨q, hq⟩ : ∃ q : Nat, q = X % n := ⟨_, rfl⟩
      have hqn : q < n := by rw [hq]; exact Nat.mod_lt _ (by omega)
      have em : ((X : Int)).tmod (n : Int) = (q : Int) := by rw [Int.tmod_eq_emod_of_nonneg (by omega), hq]; omega
      have em2 : (X : Int) % (n : Int) = (q : Int) := by rw [hq]; omega
      have en : ¬ (n : Int) = 0 := by omega
      have en2 : ((n : Int) == 0) = false := by simpa using en
      obtain ⟨k, hk⟩ : ∃ k : Nat, k = q + 1 := ⟨_, rfl⟩
      have ek : 1 + (q : Int) = (k : Int) := by omega
      have hk1 : 1 ≤ k := by omega
      have hkn : k ≤ n := by omega
      clear hq
      clear hk
      go_wp2_with fail
      have rd := r1.drew
      have hbd := hbw.drew
      have n0 : w4.drew.cell? ⟨w.heap.size, 0, none⟩ = some (.string ⟨p.name.toArray⟩) := rd.cell 0
      have n1 : w4.drew.cell? ⟨w.heap.size, 1, none⟩ = some (.bool p.ki) := rd.cell 1
      have n2 : w4.drew.cell? ⟨w.heap.size, 2, none⟩ = some (.bool p.kr) := rd.cell 2
      have n3 : w4.drew.cell? ⟨w.heap.size, 3, none⟩ = some (.slice am n cap) := rd.cell 3
      have bp := fun w => build_pa ⟨p.name.toArray⟩ p.ki p.kr am k cap w
      have hkc : (k : Int) ≤ (cap : Int) := by omega
      have hk0 : (0 : Int) ≤ (k : Int) := by omega
      clear m3 em em2 en en2 ek hqn hXa' hX
      refine wpE_begin 10 (by kernel_rfl) ?_
      refine wpE_take (i := 0) (oi := { dst := some 30, op := Op.fieldAddr 25 (Operand.tmp 2) 0, type := 0, pos := "law.go:235", after := #[], guard := none }) (v := ?_) rfl (by decide) (by kernel_rfl) (by kernel_rfl) (by kernel_rfl) (by kernel_rfl) (by rfl) ?_ ?_
      rotate_left
      · intro W hW; first | (go_simp; done) | (go_simp; with_reducible rfl)
      try simp only [Act.put, List.setIfInBounds_toArray, List.set_cons_zero, List.set_cons_succ]
      refine wpE_take (i := 1) (oi := { dst := some 31, op := Op.load 9 (Operand.tmp 30), type := 9, pos := "law.go:235", after := #[{ on := 0, ground := Ground.data }], guard := none }) (v := ?_) rfl (by decide) (by kernel_rfl) (by kernel_rfl) (by kernel_rfl) (by kernel_rfl) (by rfl) ?_ ?_
      rotate_left
      · intro W hW; have hcW := cellKP n0 hW; first | (go_simp; done) | (go_simp; with_reducible rfl)
      try simp only [Act.put, List.setIfInBounds_toArray, List.set_cons_zero, List.set_cons_succ]
      refine wpE_take (i := 2) (oi := { dst := some 32, op := Op.fieldAddr 25 (Operand.tmp 2) 1, type := 0, pos := "law.go:235", after := #[], guard := none }) (v := ?_) rfl (by decide) (by kernel_rfl) (by kernel_rfl) (by kernel_rfl) (by kernel_rfl) (by rfl) ?_ ?_
      rotate_left
      · intro W hW; first | (go_simp; done) | (go_simp; with_reducible rfl)
      try simp only [Act.put, List.setIfInBounds_toArray, List.set_cons_zero, List.set_cons_succ]
      refine wpE_take (i := 3) (oi := { dst := some 33, op := Op.load 22 (Operand.tmp 32), type := 22, pos := "law.go:235", after := #[{ on := 2, ground := Ground.data }], guard := none }) (v := ?_) rfl (by decide) (by kernel_rfl) (by kernel_rfl) (by kernel_rfl) (by kernel_rfl) (by rfl) ?_ ?_
      rotate_left
      · intro W hW; have h1 := cellKP n1 hW; have h2 := cellKP n2 hW; first | (go_simp; done) | (go_simp; with_reducible rfl)
      try simp only [Act.put, List.setIfInBounds_toArray, List.set_cons_zero, List.set_cons_succ]
      refine wpE_take (i := 4) (oi := { dst := some 34, op := Op.fieldAddr 25 (Operand.tmp 2) 2, type := 0, pos := "law.go:235", after := #[], guard := none }) (v := ?_) rfl (by decide) (by kernel_rfl) (by kernel_rfl) (by kernel_rfl) (by kernel_rfl) (by rfl) ?_ ?_
      rotate_left
      · intro W hW; first | (go_simp; done) | (go_simp; with_reducible rfl)
      try simp only [Act.put, List.setIfInBounds_toArray, List.set_cons_zero, List.set_cons_succ]
      refine wpE_take (i := 5) (oi := { dst := some 35, op := Op.load 23 (Operand.tmp 34), type := 23, pos := "law.go:235", after := #[{ on := 4, ground := Ground.data }], guard := none }) (v := ?_) rfl (by decide) (by kernel_rfl) (by kernel_rfl) (by kernel_rfl) (by kernel_rfl) (by rfl) ?_ ?_
      rotate_left
      · intro W hW; have hcW := cellKP n3 hW; first | (go_simp; done) | (go_simp; with_reducible rfl)
      try simp only [Act.put, List.setIfInBounds_toArray, List.set_cons_zero, List.set_cons_succ]
      refine wpE_take (i := 6) (oi := { dst := some 36, op := Op.move (Operand.tmp 7), type := 3, pos := "law.go:235", after := #[], guard := none }) (v := ?_) rfl (by decide) (by kernel_rfl) (by kernel_rfl) (by kernel_rfl) (by kernel_rfl) (by rfl) ?_ ?_
      rotate_left
      · intro W hW; first | (go_simp; done) | (go_simp; with_reducible rfl)
      try simp only [Act.put, List.setIfInBounds_toArray, List.set_cons_zero, List.set_cons_succ]
      refine wpE_take (i := 7) (oi := { dst := some 37, op := Op.slice 23 (Operand.tmp 35) none (some (Operand.tmp 36)) none, type := 23, pos := "law.go:235", after := #[{ on := 5, ground := Ground.data }, { on := 6, ground := Ground.data }], guard := none }) (v := ?_) rfl (by decide) (by kernel_rfl) (by kernel_rfl) (by kernel_rfl) (by kernel_rfl) (by rfl) ?_ ?_
      rotate_left
      · intro W hW; first | (go_simp; done) | (go_simp; with_reducible rfl)
      try simp only [Act.put, List.setIfInBounds_toArray, List.set_cons_zero, List.set_cons_succ]
      refine wpE_take (i := 8) (oi := { dst := some 38, op := Op.build 25 #[(0, Operand.tmp 31), (1, Operand.tmp 33), (2, Operand.tmp 37)], type := 25, pos := "law.go:235", after := #[{ on := 1, ground := Ground.data }, { on := 3, ground := Ground.data }, { on := 7, ground := Ground.data }], guard := none }) (v := ?_) rfl (by decide) (by kernel_rfl) (by kernel_rfl) (by kernel_rfl) (by kernel_rfl) (by rfl) ?_ ?_
      rotate_left
      · intro W hW; have hbW := bp W; first | (go_simp; done) | (go_simp; with_reducible rfl)
      try simp only [Act.put, List.setIfInBounds_toArray, List.set_cons_zero, List.set_cons_succ]
      refine wpE_do (i := 9) (o := { dst := some 8, op := Op.alloc 25, type := 0, pos := "law.go:235", after := #[], guard := none }) (by kernel_rfl) rfl (by rfl) fun K hK => ?_
      refine wp_alloc_blk (Below.refl _ _) 25 rfl (paC zeP (.slice none 0 0)) (allocPa _) ?_
      intro g w6 r6 hge b6
      refine hK.out _ _ b6 ?_
      clear hK K
      try simp only [Act.put, List.setIfInBounds_toArray, List.set_cons_zero, List.set_cons_succ]
      refine wpE_last (o := { dst := none, op := Op.store 25 (Operand.tmp 8) (Operand.tmp 38), type := 0, pos := "law.go:235", after := #[{ on := 9, ground := Ground.data }, { on := 8, ground := Ground.data }, { on := 0, ground := Ground.phase }, { on := 1, ground := Ground.phase }, { on := 2, ground := Ground.phase }, { on := 3, ground := Ground.phase }, { on := 4, ground := Ground.phase }, { on := 5, ground := Ground.phase }, { on := 6, ground := Ground.phase }, { on := 7, ground := Ground.phase }, { on := 8, ground := Ground.phase }, { on := 9, ground := Ground.phase }], guard := none }) (by kernel_rfl) (by kernel_rfl) rfl (by rfl) fun K hK => ?_
      refine wp_store_part 25 _ _ rfl rfl (paC (cuP15 p k) (.slice am k cap)) rfl [] (paC zeP (.slice none 0 0)) [] (paC (cuP15 p k) (.slice am k cap)) r6 (whole15 _) (whole15 _) rfl rfl (paInfo zeP (.slice none 0 0)) (paC_all _ _ _ _) ?_
      intro w7 r7 hw7
      refine hK.out _ _ ?_
      clear hK K
      try simp only [Act.put, List.setIfInBounds_toArray, List.set_cons_zero, List.set_cons_succ]
      have b7 := hw7.below _ _ hge b6
      have HR1 : Hid (BlkAt w.heap.size 25 (paC p (.slice am n cap)) w7) := rd.kept b7
      have HR7 : Hid (BlkAt g 25 (paC (cuP15 p k) (.slice am k cap)) w7) := r7
      have HB7 : Hid (Below w.heap.size w w7) := stepB hbd b7
      have hm7 : MsR w7 (.slice am n cap) p := HM.out.kept HB7.out
      rw [HN.out] at hm7
      have HMc : Hid (MsR w7 (.slice am k cap) (cuP15 p k)) := cu_ms hm7 (by rw [← HN.out]; exact hkn)
      obtain ⟨f, hf⟩ := ms_fun hm7
      have HFu : Hid (∀ i, i < p.n → ∃ b off c t, am = some ⟨b, off, none⟩ ∧ w7.cell? ⟨b, off + i * 2, none⟩ = some (.bool (p.ini i)) ∧ w7.cell? ⟨b, off + i * 2 + 1, none⟩ = some (f i) ∧ f i = .slice t (p.tk i).length c ∧ RdI .i64 w7 (f i) (p.tk i)) := hf
      have hwl : w.heap.size < w7.heap.size := HR1.out.lt
      have hO0 : OwnG w7 [⟨48, 2, .slice none 0 0, 0, tuX p f 0⟩] w7 := (OwnG.start w7).nil 48 2
      have c3 : w7.cell? ⟨w.heap.size, 3, none⟩ = some (.slice am n cap) := HR1.out.cell 3
      clear hf hm7 rd hbd n0 n1 n2 n3 bp r6 hge b6 r7 hw7 b7 r1 hbw
      go_wp2
      go_loopw [9, 10] (fun ov iv wx => ∃ i : Nat, i ≤ n ∧ iv = .int .i64 (i : Int) ∧ OwnG w7 [⟨48, 2, ov, i, tuX p f i⟩] wx) (fun _ iv _ => n - (intOf iv).toNat)
      case atStart => exact ⟨0, by omega, rfl, hO0⟩
      case round =>
        obtain ⟨i, hi, rfl, hO⟩ := hrel
        clear hO0 c3
        have c3 : wr.cell? ⟨w.heap.size, 3, none⟩ = some (.slice am n cap) := (HR1.out.kept hO.below).cell 3
        by_cases hlt : i < n
        · have hd : decide ((i : Int) < (n : Int)) = true := decide_eq_true (by omega)
          have hiI : (i : Int) < (n : Int) := by omega
          obtain ⟨b, off, c, t, ea, k1, k2, ef, hR⟩ := HFu.out i (by rw [← HN.out]; exact hlt)
          subst ea
          have hb7 : b < w7.heap.size := World.block_lt_of_cell? _ _ k1
          obtain ⟨q0, hq0⟩ : ∃ q : Bool, q = p.ini i := ⟨_, rfl⟩
          rw [← hq0] at k1
          obtain ⟨T, hT⟩ : ∃ T : Nat, T = (p.tk i).length := ⟨_, rfl⟩
          rw [← hT] at ef
          have HNx : Hid (tuX p f i ++ [.bool (!q0), .slice t T c] = tuX p f (i + 1)) := by
            show _ = tuX p f i ++ [.bool (!p.ini i), f i]
            rw [ef, hq0]
          rw [ef] at k2
          have hS : Om w.heap.size b (off + i * 2) (.slice (some ⟨b, off, none⟩) n cap) q0 (.slice t T c) wr.drew := (show Om w.heap.size b (off + i * 2) (.slice (some ⟨b, off, none⟩) n cap) q0 (.slice t T c) w7 from ⟨HR1.out.cell 3, k1, k2⟩).kept hO.below.drew
          have hOd := hO.drew
          have HFr : Hid ((¬ some w.heap.size = u9.ownBlock) ∧ ¬ some b = u9.ownBlock) := ⟨fun e => by have := ((hO.rows _ (List.mem_cons_self ..)).lt _ e.symm).1; omega, fun e => by have := ((hO.rows _ (List.mem_cons_self ..)).lt b e.symm).1; omega⟩
          generalize tuX p f i = KT at hOd HNx
          have bk := fun w => build_msO (!q0) t T c w
          clear hO k1 k2 hq0 hb7 hT ef hR
          go_wp2_with fail
          refine wpS_begin (Om w.heap.size b (off + i * 2) (.slice (some ⟨b, off, none⟩) n cap) q0 (.slice t T c)) (by kernel_rfl) ?_
          refine wpS_take (hS := hS) (i := 0) (oi := { dst := some 46, op := Op.move (Operand.tmp 9), type := 23, pos := "law.go:238", after := #[], guard := none }) (v := ?_) rfl (by kernel_rfl) (by kernel_rfl) (by kernel_rfl) (by rfl) ?_ ?_
          rotate_left
          · intro W hW; first | (go_simp; done) | (go_simp; with_reducible rfl)
          try simp only [Act.put, List.setIfInBounds_toArray, List.set_cons_zero, List.set_cons_succ]
          refine wpS_take (hS := hS) (i := 1) (oi := { dst := some 47, op := Op.fieldAddr 25 (Operand.tmp 2) 2, type := 0, pos := "law.go:238", after := #[], guard := none }) (v := ?_) rfl (by kernel_rfl) (by kernel_rfl) (by kernel_rfl) (by rfl) ?_ ?_
          rotate_left
          · intro W hW; first | (go_simp; done) | (go_simp; with_reducible rfl)
          try simp only [Act.put, List.setIfInBounds_toArray, List.set_cons_zero, List.set_cons_succ]
          refine wpS_take (hS := hS) (i := 2) (oi := { dst := some 48, op := Op.load 23 (Operand.tmp 47), type := 23, pos := "law.go:238", after := #[{ on := 1, ground := Ground.data }], guard := none }) (v := ?_) rfl (by kernel_rfl) (by kernel_rfl) (by kernel_rfl) (by rfl) ?_ ?_
          rotate_left
          · intro W hW; have cW := hW.box; first | (go_simp; done) | (go_simp; with_reducible rfl)
          try simp only [Act.put, List.setIfInBounds_toArray, List.set_cons_zero, List.set_cons_succ]
          refine wpS_take (hS := hS) (i := 3) (oi := { dst := some 49, op := Op.move (Operand.tmp 10), type := 3, pos := "law.go:238", after := #[], guard := none }) (v := ?_) rfl (by kernel_rfl) (by kernel_rfl) (by kernel_rfl) (by rfl) ?_ ?_
          rotate_left
          · intro W hW; first | (go_simp; done) | (go_simp; with_reducible rfl)
          try simp only [Act.put, List.setIfInBounds_toArray, List.set_cons_zero, List.set_cons_succ]
          refine wpS_take (hS := hS) (i := 4) (oi := { dst := some 50, op := Op.indexAddr 23 (Operand.tmp 48) (Operand.tmp 49), type := 0, pos := "law.go:238", after := #[{ on := 2, ground := Ground.data }, { on := 3, ground := Ground.data }], guard := none }) (v := ?_) rfl (by kernel_rfl) (by kernel_rfl) (by kernel_rfl) (by rfl) ?_ ?_
          rotate_left
          · intro W hW; first | (go_simp; done) | (go_simp; with_reducible rfl)
          try simp only [Act.put, List.setIfInBounds_toArray, List.set_cons_zero, List.set_cons_succ]
          refine wpS_take (hS := hS) (i := 5) (oi := { dst := some 51, op := Op.fieldAddr 48 (Operand.tmp 50) 0, type := 0, pos := "law.go:238", after := #[{ on := 4, ground := Ground.data }], guard := none }) (v := ?_) rfl (by kernel_rfl) (by kernel_rfl) (by kernel_rfl) (by rfl) ?_ ?_
          rotate_left
          · intro W hW; first | (go_simp; done) | (go_simp; with_reducible rfl)
          try simp only [Act.put, List.setIfInBounds_toArray, List.set_cons_zero, List.set_cons_succ]
          refine wpS_take (hS := hS) (i := 6) (oi := { dst := some 52, op := Op.load 4 (Operand.tmp 51), type := 4, pos := "law.go:238", after := #[{ on := 5, ground := Ground.data }], guard := none }) (v := ?_) rfl (by kernel_rfl) (by kernel_rfl) (by kernel_rfl) (by rfl) ?_ ?_
          rotate_left
          · intro W hW; have cW := hW.ini; first | (go_simp; done) | (go_simp; with_reducible rfl)
          try simp only [Act.put, List.setIfInBounds_toArray, List.set_cons_zero, List.set_cons_succ]
          refine wpS_take (hS := hS) (i := 7) (oi := { dst := some 53, op := Op.unOp UnOp.not 4 (Operand.tmp 52), type := 4, pos := "law.go:238", after := #[{ on := 6, ground := Ground.data }], guard := none }) (v := ?_) rfl (by kernel_rfl) (by kernel_rfl) (by kernel_rfl) (by rfl) ?_ ?_
          rotate_left
          · intro W hW; first | (go_simp; done) | (go_simp; with_reducible rfl)
          try simp only [Act.put, List.setIfInBounds_toArray, List.set_cons_zero, List.set_cons_succ]
          refine wpS_take (hS := hS) (i := 8) (oi := { dst := some 54, op := Op.fieldAddr 25 (Operand.tmp 2) 2, type := 0, pos := "law.go:238", after := #[], guard := none }) (v := ?_) rfl (by kernel_rfl) (by kernel_rfl) (by kernel_rfl) (by rfl) ?_ ?_
          rotate_left
          · intro W hW; first | (go_simp; done) | (go_simp; with_reducible rfl)
          try simp only [Act.put, List.setIfInBounds_toArray, List.set_cons_zero, List.set_cons_succ]
          refine wpS_take (hS := hS) (i := 9) (oi := { dst := some 55, op := Op.load 23 (Operand.tmp 54), type := 23, pos := "law.go:238", after := #[{ on := 8, ground := Ground.data }], guard := none }) (v := ?_) rfl (by kernel_rfl) (by kernel_rfl) (by kernel_rfl) (by rfl) ?_ ?_
          rotate_left
          · intro W hW; have cW := hW.box; first | (go_simp; done) | (go_simp; with_reducible rfl)
          try simp only [Act.put, List.setIfInBounds_toArray, List.set_cons_zero, List.set_cons_succ]
          refine wpS_take (hS := hS) (i := 10) (oi := { dst := some 56, op := Op.move (Operand.tmp 10), type := 3, pos := "law.go:238", after := #[], guard := none }) (v := ?_) rfl (by kernel_rfl) (by kernel_rfl) (by kernel_rfl) (by rfl) ?_ ?_
          rotate_left
          · intro W hW; first | (go_simp; done) | (go_simp; with_reducible rfl)
          try simp only [Act.put, List.setIfInBounds_toArray, List.set_cons_zero, List.set_cons_succ]
          refine wpS_take (hS := hS) (i := 11) (oi := { dst := some 57, op := Op.indexAddr 23 (Operand.tmp 55) (Operand.tmp 56), type := 0, pos := "law.go:238", after := #[{ on := 9, ground := Ground.data }, { on := 10, ground := Ground.data }], guard := none }) (v := ?_) rfl (by kernel_rfl) (by kernel_rfl) (by kernel_rfl) (by rfl) ?_ ?_
          rotate_left
          · intro W hW; first | (go_simp; done) | (go_simp; with_reducible rfl)
          try simp only [Act.put, List.setIfInBounds_toArray, List.set_cons_zero, List.set_cons_succ]
          refine wpS_take (hS := hS) (i := 12) (oi := { dst := some 58, op := Op.fieldAddr 48 (Operand.tmp 57) 1, type := 0, pos := "law.go:238", after := #[{ on := 11, ground := Ground.data }], guard := none }) (v := ?_) rfl (by kernel_rfl) (by kernel_rfl) (by kernel_rfl) (by rfl) ?_ ?_
          rotate_left
          · intro W hW; first | (go_simp; done) | (go_simp; with_reducible rfl)
          try simp only [Act.put, List.setIfInBounds_toArray, List.set_cons_zero, List.set_cons_succ]
          refine wpS_take (hS := hS) (i := 13) (oi := { dst := some 59, op := Op.load 46 (Operand.tmp 58), type := 46, pos := "law.go:238", after := #[{ on := 12, ground := Ground.data }], guard := none }) (v := ?_) rfl (by kernel_rfl) (by kernel_rfl) (by kernel_rfl) (by rfl) ?_ ?_
          rotate_left
          · intro W hW; have cW := hW.tok; first | (go_simp; done) | (go_simp; with_reducible rfl)
          try simp only [Act.put, List.setIfInBounds_toArray, List.set_cons_zero, List.set_cons_succ]
          refine wpS_take (hS := hS) (i := 14) (oi := { dst := some 60, op := Op.build 48 #[(0, Operand.tmp 53), (1, Operand.tmp 59)], type := 48, pos := "law.go:238", after := #[{ on := 7, ground := Ground.data }, { on := 13, ground := Ground.data }], guard := none }) (v := ?_) rfl (by kernel_rfl) (by kernel_rfl) (by kernel_rfl) (by rfl) ?_ ?_
          rotate_left
          · intro W hW; have bW := bk W; first | (go_simp; done) | (go_simp; with_reducible rfl)
          try simp only [Act.put, List.setIfInBounds_toArray, List.set_cons_zero, List.set_cons_succ]
          refine wpS_do (i := 15) (o := { dst := some 61, op := Op.buildSlice 23 1 #[(0, Operand.tmp 60)], type := 23, pos := "law.go:238", after := #[{ on := 14, ground := Ground.data }], guard := none }) (by kernel_rfl) rfl (by rfl) fun K hK => ?_
          go_simp
          replace hS := hS.kept (growB (.cells #[.bool (!q0), .slice t T c] 48))
          refine hK.out _ _ hS ?_
          clear hK K
          try simp only [Act.put, List.setIfInBounds_toArray, List.set_cons_zero, List.set_cons_succ]
          refine wpS_do (i := 16) (o := { dst := some 62, op := Op.call { callee := Callee.builtin Builtin.append, args := #[Operand.tmp 46, Operand.tmp 61], argTypes := #[23, 23] }, type := 23, pos := "law.go:238", after := #[{ on := 0, ground := Ground.data }, { on := 15, ground := Ground.data }], guard := none }) (by kernel_rfl) rfl (by rfl) fun K hK => ?_
          refine wp_append_E _ _ 23 rfl 48 ti _ 2 32 Tryz.underlying23 hti hz0 hz1 hz2 rfl (by decide) _ i KT rfl (hOd.kept (growB _)) ⟨wr.heap.size, 0, none⟩ 1 1 [.bool (!q0), .slice t T c] rfl rfl (news2 _ _ rfl) (oneMs _ _ _ _) (by unfold maxLen; omega) (by omega) ?_
          intro v8 w8 hO8 hC8
          replace hS := hS.chg hC8 HFr.out.1 HFr.out.2
          refine hK.out _ _ hS ?_
          clear hK K
          try simp only [Act.put, List.setIfInBounds_toArray, List.set_cons_zero, List.set_cons_succ]
          refine wpS_take (hS := hS) (i := 17) (oi := { dst := some 9, op := Op.assign (Operand.tmp 62), type := 23, pos := "law.go:238", after := #[{ on := 16, ground := Ground.data }, { on := 16, ground := Ground.chain }, { on := 0, ground := Ground.phase }, { on := 1, ground := Ground.phase }, { on := 2, ground := Ground.phase }, { on := 3, ground := Ground.phase }, { on := 4, ground := Ground.phase }, { on := 5, ground := Ground.phase }, { on := 6, ground := Ground.phase }, { on := 7, ground := Ground.phase }, { on := 8, ground := Ground.phase }, { on := 9, ground := Ground.phase }, { on := 10, ground := Ground.phase }, { on := 11, ground := Ground.phase }, { on := 12, ground := Ground.phase }, { on := 13, ground := Ground.phase }, { on := 14, ground := Ground.phase }, { on := 15, ground := Ground.phase }, { on := 16, ground := Ground.phase }], guard := none }) (v := ?_) rfl (by kernel_rfl) (by kernel_rfl) (by kernel_rfl) (by rfl) ?_ ?_
          rotate_left
          · intro W hW; first | (go_simp; done) | (go_simp; with_reducible rfl)
          try simp only [Act.put, List.setIfInBounds_toArray, List.set_cons_zero, List.set_cons_succ]
          refine wpS_done (by kernel_rfl) ?_
          rw [HNx.out] at hO8
          clear hC8 hS hOd HFr bk c3
          go_wp2
          go_roundw
          case rel => exact ⟨i + 1, by omega, by go_num, hO8⟩
          case measure => simp [intOf] <;> omega
        · have hd : decide ((i : Int) < (n : Int)) = false := decide_eq_false (by omega)
          have hiI : (n : Int) ≤ (i : Int) := by omega
          have hie : i = p.n := by have := HN.out; omega
          have hb9 := hO.below
          have hmt : MsR wr u9 (tuP p) := by
            have h1 := RdE.of_own (hO.rows _ (List.mem_cons_self ..))
            simp only [hie] at h1
            exact tu_ms h1 fun k hk => by
              obtain ⟨_, _, _, _, -, -, -, -, hR⟩ := HFu.out k hk
              exact RdI.kept hR hb9
          have HMt : Hid (MsR wr u9 (tuP p)) := hmt
          obtain ⟨a9, n9, c9, e9⟩ : ∃ a n c, u9 = .slice a n c := by obtain ⟨a, c, e, -⟩ := hmt.form; exact ⟨a, _, c, e⟩
          subst e9
          have r1 := HR1.out.kept hb9
          have r7 := HR7.out.kept hb9
          have hbw := stepB HB7.out hb9
          obtain ⟨NB, hNB⟩ : ∃ B : ByteArray, B = ⟨p.name.toArray⟩ := ⟨_, rfl⟩
          have HNB : Hid (NB = ⟨p.name.toArray⟩) := hNB
          have bp := fun w => build_pa NB p.ki p.kr a9 n9 c9 w
          clear hO hmt hie
          go_wp2_with (refine wpList_load_part rfl 25 _ rfl rfl [] (paC (cuP15 p k) (.slice am k cap)) [] r7 (whole15 _) rfl Tryz.underlying25 rfl (paInfo (cuP15 p k) _) ?_)
          refine (check_any (cuP15 p k) _ _ rfl HL.out _ (HMc.out.kept hb9)).mono ?_
          rw [cu_zero HC.out hk1 (by rw [← HN.out]; exact hkn)]
          rintro e w10 ⟨rfl, b10⟩
          have rf := r1.kept b10
          have n0 : w10.cell? ⟨w.heap.size, 0, none⟩ = some (.string NB) := by rw [hNB]; exact rf.cell 0
          have n1 : w10.cell? ⟨w.heap.size, 1, none⟩ = some (.bool p.ki) := rf.cell 1
          have n2 : w10.cell? ⟨w.heap.size, 2, none⟩ = some (.bool p.kr) := rf.cell 2
          have HMt2 : Hid (MsR w10 (.slice a9 n9 c9) (tuP p)) := HMt.out.kept b10
          replace hbw := stepB hbw b10
          clear r1 r7 hb9 b10 rf c3 hNB
          go_wp2_with fail
          refine (check_any (tuP p) (.slice a9 n9 c9) _ (by rw [HNB.out]; rfl) HL.out _ HMt2.out).mono ?_
          rw [tu_bad HC.out]
          rintro e w11 ⟨rfl, b11⟩
          replace hbw := stepB hbw b11
          clear b11 n0 n1 n2 bp
          go_wp2
          go_ret
          exact ⟨rfl, hbw⟩
    · have g1 : (C == 0) = false := by simpa using hc0
      have g2 : (C != 0) = true := by simpa using hc0
      clear hC
      go_wp2
      go_ret
      exact ⟨rfl, hbw⟩
end Go.Proofs.YtpoibhhijidobabGreatDoor
