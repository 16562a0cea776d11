/- From which keys a pattern's secrets can be worked out: contracts of the reference of layer 15, thirteenth part. -/
import Derived.Test.YtpoibhhijidobaaGreatDoorRef15l
import Derived.Test.YtpoibhhijidobaaGreatDoorBase
import Derived.Deep.DeepCutAuto
import Derived.ChangeKeysEq
import Derived.Laws.StructEq
namespace Go.Proofs.YtpoibhhijidobaaGreatDoor
open Go.ChangeShapes Go.WideShapes Go.ChangeAt Go.RowKit
set_option linter.unusedSimpArgs false
set_option linter.unusedVariables false

theorem rng2 {W : World} {g o : Nat} {u v : Value} (h1 : W.cell? ⟨g, o, none⟩ = some u) (h2 : W.cell? ⟨g, o + 1, none⟩ = some v) : W.rangeAt g o [u, v] := fun j x hx => by
  match j with
  | 0 => simp at hx; subst hx; exact h1
  | 1 => simp at hx; subst hx; exact h2
  | j + 2 => simp at hx
/-- A struct is loaded out of a row in a region whose order is open. -/
theorem exec_load_rng {P : Program} {op : Oper} {a : Act} {W : World} (ty : TypeId) (x : Operand) (ho : op.op = .load ty x) {g o : Nat} (hx : a.eval x = .pointer (some ⟨g, o, none⟩)) (mid : List Value) (hr : W.rangeAt g o mid) {d : TypeDesc} (hu : P.underlying ty = some d) (hd : d.isRow = true) (hi : (P.info? ty).map (·.size) = some mid.length) :
    (execOp a.eval op).run P W = .ok (.value (.agg mid.toArray)) W := by
  have h1 := run_loadVar_mid (P := P) W g o ty mid d hr hu hd hi
  unfold execOp
  simp only [ho, hx, Instr.loadAt, Instr.sureAddr, Sem.run_bind, Sem.run_pure, Result.andThen_ok, h1]
theorem rngB {w W : World} {g o : Nat} {l : List Value} (h : w.rangeAt g o l) (hb : Below w.drew.heap.size w.drew W) : W.rangeAt g o l := fun j x hx => by
  have h1 := h j x hx
  have h2 : w.drew.cell? ⟨g, o + j, none⟩ = some x := h1
  rw [hb.cell (World.block_lt_of_cell? _ _ h2)]
  exact h2
theorem rngK {w W : World} {g o : Nat} {l : List Value} (h : w.rangeAt g o l) (hb : Below w.heap.size w W) : W.rangeAt g o l := fun j x hx => by
  have h1 := h j x hx
  rw [hb.cell (World.block_lt_of_cell? _ _ h1)]
  exact h1
theorem cellDK {w W : World} {p : Addr} {v : Value} (h : w.cell? p = some v) (hb : Below w.drew.heap.size w.drew W) : W.cell? p = some v := by
  have h2 : w.drew.cell? p = some v := h
  rw [hb.cell (World.block_lt_of_cell? _ _ h2)]
  exact h2
theorem infoKyR (u v : Value) : (Tryz.prog.info? 57).map (·.size) = some [u, v].length := by
  show _ = some 2
  kernel_rfl
/-- Do all of the first i keep to something? -/
def alT {α : Type} (f : α → Bool) (l : List α) : Nat → Bool
  | 0 => true
  | i + 1 => alT f l i && (match l[i]? with | some x => f x | none => true)
theorem alT_next {α : Type} (f : α → Bool) (l : List α) (i : Nat) (h : i < l.length) : alT f l (i + 1) = (alT f l i && f l[i]) := by
  show (alT f l i && (match l[i]? with | some x => f x | none => true)) = _
  rw [List.getElem?_eq_getElem h]
theorem alT_take {α : Type} (f : α → Bool) (l : List α) : ∀ i, alT f l i = (l.take i).all f
  | 0 => rfl
  | i + 1 => by
    show (alT f l i && (match l[i]? with | some x => f x | none => true)) = _
    rw [alT_take f l i, List.take_add_one, List.all_append]
    cases l[i]? <;> simp
theorem alT_all {α : Type} (f : α → Bool) (l : List α) : alT f l l.length = l.all f := by rw [alT_take, List.take_length]

set_option maxRecDepth 100000 in
set_option maxHeartbeats 16000000 in
theorem derivable15_any (p : Ptn) (hp : p.name.length ≤ 1000000) (A : Array Value) (vi vl : Value) (hA : A = (ptC p vi vl).toArray) (curve kem : Bool) (vk : Value) (known : List (Bool × Int)) (w : World) (hR : PtR w p vi vl) (hK : RdE w vk 2 known.length (kyC known)) :
    Calls Tryz.prog 24 #[.agg A, .bool curve, .bool kem, vk] w fun e w' => e = .returned (.bool (drB p curve kem known)) ∧ Below w.heap.size w w' := by
  have HR : Hid (PtR w p vi vl) := hR
  have HP : Hid (p.name.length ≤ 1000000) := hp
  obtain ⟨ak, ck, rfl, hk2, hk3⟩ := hK.len
  unfold maxLen at hk3
  obtain ⟨K, hKn⟩ : ∃ n : Nat, n = known.length := ⟨_, rfl⟩
  have HKn : Hid (K = known.length) := hKn
  have HK0 : Hid (RdE w (.slice ak known.length ck) 2 known.length (kyC known)) := hK
  rw [← hKn] at hk2 ⊢
  clear hR hp hK hKn
  go_enter Tryz.func24, Tryz.ntmps24
  go_wp2_with (refine wpList_box_blk rfl 33 _ rfl (ptC p vi vl) (by rw [← hA]; rfl) ?_)
  intro w1 hB b1 s1
  have hB0 : BlkAt w.heap.size 33 ([] ++ ptC p vi vl ++ []) w1 := by rw [List.append_nil]; exact hB
  have hR1 := HR.out.kept b1
  have hbw := b1
  clear hB b1 s1 hA
  go_wp2_with (refine wpList_load_blk rfl 33 _ rfl (g := w.heap.size) (o := 0) (by go_simp; done) hB0 rfl Tryz.underlying33 rfl (ptInfo _ _ _) ?_)
  refine (written15_any p HP.out _ _ _ rfl _ hR1).mono ?_
  rintro e w2 ⟨rfl, b2⟩
  replace hB0 := hB0.kept b2
  replace hR1 := hR1.kept b2
  replace hbw := stepB hbw b2
  clear b2
  go_wp2_with (refine wpList_load_blk rfl 33 _ rfl (g := w.heap.size) (o := 0) (by go_simp; done) hB0 rfl Tryz.underlying33 rfl (ptInfo _ _ _) ?_)
  refine (secrets15_any p HP.out _ _ _ rfl _ hR1).mono ?_
  rintro e w3 ⟨v, LK, rfl, hL, hO⟩
  have hS := ScR.of_own hO
  replace hbw := stepB hbw hO.below
  obtain ⟨av, cv, rfl, hn2, hn3⟩ := hS.row.len
  unfold maxLen at hn3
  obtain ⟨n, hn⟩ : ∃ n : Nat, n = LK.length := ⟨_, rfl⟩
  rw [← hn] at hn2 ⊢
  have HN : Hid (n = LK.length) := hn
  have HS : Hid (ScR w3 (.slice av LK.length cv) LK) := hS
  have HK : Hid (RdE w3 (.slice ak known.length ck) 2 known.length (kyC known)) := RdE.kept HK0.out hbw
  have HH : Hid ((wrB p && alT (fun e => drE curve kem known e.1) LK LK.length) = drB p curve kem known) := by
    show _ = _
    rw [alT_all]
    unfold drB
    rw [← hL, List.all_map]
    rfl
  obtain ⟨wb, hwb⟩ : ∃ b : Bool, b = wrB p := ⟨_, rfl⟩
  rw [← hwb] at HH ⊢
  clear hO hS hB0 hR1 hL hn HK0 hwb
  rename World => W0
  go_wp2
  go_loopw [9, 11] (fun okv iv wx => ∃ (i : Nat) (ok : Bool), i ≤ n ∧ iv = .int .i64 (i : Int) ∧ okv = .bool ok ∧ Hid (ok = (wb && alT (fun e => drE curve kem known e.1) LK i)) ∧ Hid (Below W0.heap.size W0 wx)) (fun _ iv _ => n - (intOf iv).toNat)
  case atStart => exact ⟨0, wb, by omega, rfl, rfl, (by show _ = (wb && true); rw [Bool.and_true]), Below.refl _ _⟩
  case round =>
    obtain ⟨i, ok, hi, rfl, rfl, HA, HBi⟩ := hrel
    by_cases hlt : i < n
    · have hd : decide ((i : Int) < (n : Int)) = true := decide_eq_true (by omega)
      have hiI : (i : Int) < (n : Int) := by omega
      have hlk : i < LK.length := by rw [← HN.out]; exact hlt
      obtain ⟨gb, ob, rfl, hc, hck⟩ := HS.out.at i hlk
      have hky := HS.out.keys LK[i] (List.getElem_mem hlk)
      have HA2 : Hid (∀ s, s = drE curve kem known LK[i].1 → ∀ x, x = (ok && s) → x = (wb && alT (fun e => drE curve kem known e.1) LK (i + 1))) := by
        intro s hs x hx
        rw [hx, alT_next _ _ _ hlk, HA.out, hs, Bool.and_assoc]
      generalize hE : LK[i] = E at hc hck hky HA2
      obtain ⟨⟨T, keys⟩, vy⟩ := E
      simp only at hc hck hky HA2
      obtain ⟨ay, cy, rfl, hy2, hy3⟩ := hky.len
      unfold maxLen at hy3
      obtain ⟨M, hM⟩ : ∃ n : Nat, n = keys.length := ⟨_, rfl⟩
      have HM : Hid (M = keys.length) := hM
      have HKy : Hid (RdE W0 (.slice ay keys.length cy) 2 keys.length (kyC keys)) := hky
      rw [← hM] at hck hy2
      clear hE HA hky hM
      rw [Nat.mul_comm 2 i] at hc hck
      rw [← Nat.add_assoc] at hck
      have HQ : Hid (W0.cell? ⟨gb, ob + i * 2 + 1, none⟩ = some (.slice ay M cy)) := hck
      replace hc := cellK15 hc HBi.out
      have hq := cellK15 HQ.out HBi.out
      clear hck
      go_upto_region 6 with fail
      go_cut [12] (fun v wx => ∃ s : Bool, v = .bool s ∧ Hid (s = ((curve && decide (T < 7)) || (kem && decide (8 < T)))) ∧ Hid (Below W0.heap.size W0 wx))
      case first =>
        by_cases h7 : T < 7
        · have d7 : decide (T < 7) = true := decide_eq_true h7
          cases curve <;> cases kem
          all_goals
            go_wp2_with fail
            go_meet
            exact ⟨_, rfl, (by show _ = _; simp [d7]), HBi⟩
        · have d7 : decide (T < 7) = false := decide_eq_false h7
          cases curve <;> cases kem
          all_goals
            go_wp2_with fail
            go_meet
            exact ⟨_, rfl, (by show _ = _; simp [d7]), HBi⟩
      case rest =>
      obtain ⟨s0, rfl, HS0, HBc⟩ := hcut
      replace hq := cellK15 HQ.out HBc.out
      rename World => wC
      go_wp2
      go_loopw [12, 13] (fun sv jv wx => ∃ (j : Nat) (s : Bool), j ≤ M ∧ jv = .int .i64 (j : Int) ∧ sv = .bool s ∧ Hid (s = (s0 || anT (fun k => known.any fun q => q == k) keys j)) ∧ Hid (Below W0.heap.size W0 wx)) (fun _ jv _ => M - (intOf jv).toNat)
      case atStart => exact ⟨0, s0, by omega, rfl, rfl, (by show _ = (s0 || false); rw [Bool.or_false]), HBc⟩
      case round =>
        obtain ⟨j, s, hj, rfl, rfl, HJ, HBj⟩ := hrel
        replace hq := cellK15 HQ.out HBj.out
        by_cases hlj : j < M
        · have hdj : decide ((j : Int) < (M : Int)) = true := decide_eq_true (by omega)
          have hjI : (j : Int) < (M : Int) := by omega
          have hlky : j < keys.length := by rw [← HM.out]; exact hlj
          obtain ⟨gy, oy, rfl, hyi, hyk⟩ := HKy.out.keyAt j hlky
          have HJ2 : Hid (∀ x, x = (s || known.any fun q => q == keys[j]) → x = (s0 || anT (fun k => known.any fun q => q == k) keys (j + 1))) := by
            intro x hx
            rw [hx, anT_next _ _ _ hlky, HJ.out, Bool.or_assoc]
          generalize keys[j] = ky at hyi hyk HJ2
          obtain ⟨yb, yx⟩ := ky
          simp only at hyi hyk HJ2
          have HY : Hid (W0.rangeAt gy (oy + j * 2) [.bool yb, .int .i64 yx]) := by
            rw [Nat.mul_comm 2 j] at hyi hyk
            exact rng2 hyi (by rw [Nat.add_assoc]; exact hyk)
          clear HJ hyi hyk
          rename World => wJ
          go_wp2
          go_loopw [12, 14] (fun sv kv wx => ∃ (k : Nat) (t : Bool), k ≤ K ∧ kv = .int .i64 (k : Int) ∧ sv = .bool t ∧ Hid (t = (s || anT (fun q => q == (yb, yx)) known k)) ∧ Hid (Below W0.heap.size W0 wx)) (fun _ kv _ => K - (intOf kv).toNat)
          case atStart => exact ⟨0, s, by omega, rfl, rfl, (by show _ = (s || false); rw [Bool.or_false]), HBj⟩
          case round =>
            obtain ⟨k, t, hk, rfl, rfl, HT, HBk⟩ := hrel
            replace hq := cellK15 HQ.out HBk.out
            by_cases hlk3 : k < K
            · have hdk : decide ((k : Int) < (K : Int)) = true := decide_eq_true (by omega)
              have hkI : (k : Int) < (K : Int) := by omega
              have hlkn : k < known.length := by rw [← HKn.out]; exact hlk3
              obtain ⟨gk, og, rfl, hgi, hgk⟩ := HK.out.keyAt k hlkn
              have HT2 : Hid (∀ x, x = (t || (known[k] == (yb, yx))) → x = (s || anT (fun q => q == (yb, yx)) known (k + 1))) := by
                intro x hx
                rw [hx, anT_next _ _ _ hlkn, HT.out, Bool.or_assoc]
              generalize known[k] = kn at hgi hgk HT2
              obtain ⟨zb, zx⟩ := kn
              simp only at hgi hgk HT2
              have HZ : Hid (W0.rangeAt gk (og + k * 2) [.bool zb, .int .i64 zx]) := by
                rw [Nat.mul_comm 2 k] at hgi hgk
                exact rng2 hgi (by rw [Nat.add_assoc]; exact hgk)
              clear HT hgi hgk
              cases t
              · by_cases hb : zb = yb
                · by_cases hx : zx = yx
                  · go_wp2_with fail
                    refine wpG_begin (by kernel_rfl) ?_
                    refine wpG_take (i := 0) (oi := { dst := some 61, op := Op.move (Operand.tmp 12), type := 4, pos := "ref.go:323", after := #[], guard := none }) (v := ?_) rfl (by kernel_rfl) (by kernel_rfl) (by kernel_rfl) (by rfl) ?_ ?_
                    rotate_left
                    · intro W hW; first | (go_simp; done) | (go_simp; with_reducible rfl)
                    try simp only [Act.put, List.setIfInBounds_toArray, List.set_cons_zero, List.set_cons_succ]
                    refine wpG_take (i := 1) (oi := { dst := some 62, op := Op.move (Operand.tmp 61), type := 4, pos := "ref.go:323", after := #[{ on := 0, ground := Ground.data }], guard := none }) (v := ?_) rfl (by kernel_rfl) (by kernel_rfl) (by kernel_rfl) (by rfl) ?_ ?_
                    rotate_left
                    · intro W hW; first | (go_simp; done) | (go_simp; with_reducible rfl)
                    try simp only [Act.put, List.setIfInBounds_toArray, List.set_cons_zero, List.set_cons_succ]
                    refine wpG_take (i := 2) (oi := { dst := some 63, op := Op.move (Operand.tmp 3), type := 50, pos := "ref.go:323", after := #[{ on := 1, ground := Ground.guard }], guard := some (1, false) }) (v := ?_) rfl (by kernel_rfl) (by kernel_rfl) (by kernel_rfl) (by rfl) ?_ ?_
                    rotate_left
                    · intro W hW; first | (go_simp; done) | (go_simp; with_reducible rfl)
                    try simp only [Act.put, List.setIfInBounds_toArray, List.set_cons_zero, List.set_cons_succ]
                    refine wpG_take (i := 3) (oi := { dst := some 64, op := Op.move (Operand.tmp 14), type := 3, pos := "ref.go:323", after := #[{ on := 1, ground := Ground.guard }], guard := some (1, false) }) (v := ?_) rfl (by kernel_rfl) (by kernel_rfl) (by kernel_rfl) (by rfl) ?_ ?_
                    rotate_left
                    · intro W hW; first | (go_simp; done) | (go_simp; with_reducible rfl)
                    try simp only [Act.put, List.setIfInBounds_toArray, List.set_cons_zero, List.set_cons_succ]
                    refine wpG_take (i := 4) (oi := { dst := some 65, op := Op.indexAddr 50 (Operand.tmp 63) (Operand.tmp 64), type := 0, pos := "ref.go:323", after := #[{ on := 2, ground := Ground.data }, { on := 3, ground := Ground.data }, { on := 1, ground := Ground.guard }], guard := some (1, false) }) (v := ?_) rfl (by kernel_rfl) (by kernel_rfl) (by kernel_rfl) (by rfl) ?_ ?_
                    rotate_left
                    · intro W hW; first | (go_simp; done) | (go_simp; with_reducible rfl)
                    try simp only [Act.put, List.setIfInBounds_toArray, List.set_cons_zero, List.set_cons_succ]
                    refine wpG_take (i := 5) (oi := { dst := some 66, op := Op.load 57 (Operand.tmp 65), type := 57, pos := "ref.go:323", after := #[{ on := 4, ground := Ground.data }, { on := 1, ground := Ground.guard }], guard := some (1, false) }) (v := ?_) rfl (by kernel_rfl) (by kernel_rfl) (by kernel_rfl) (by rfl) ?_ ?_
                    rotate_left
                    · intro W hW; refine Eq.trans (exec_load_rng 57 _ (by rfl) (by rfl) [.bool zb, .int .i64 zx] (rngB (rngK HZ.out HBk.out) hW) Tryz.underlying57 rfl (infoKyR _ _)) ?_; with_reducible rfl
                    try simp only [Act.put, List.setIfInBounds_toArray, List.set_cons_zero, List.set_cons_succ]
                    refine wpG_take (i := 6) (oi := { dst := some 67, op := Op.move (Operand.tmp 10), type := 46, pos := "ref.go:323", after := #[{ on := 1, ground := Ground.guard }], guard := some (1, false) }) (v := ?_) rfl (by kernel_rfl) (by kernel_rfl) (by kernel_rfl) (by rfl) ?_ ?_
                    rotate_left
                    · intro W hW; first | (go_simp; done) | (go_simp; with_reducible rfl)
                    try simp only [Act.put, List.setIfInBounds_toArray, List.set_cons_zero, List.set_cons_succ]
                    refine wpG_take (i := 7) (oi := { dst := some 68, op := Op.move (Operand.tmp 11), type := 3, pos := "ref.go:323", after := #[{ on := 1, ground := Ground.guard }], guard := some (1, false) }) (v := ?_) rfl (by kernel_rfl) (by kernel_rfl) (by kernel_rfl) (by rfl) ?_ ?_
                    rotate_left
                    · intro W hW; first | (go_simp; done) | (go_simp; with_reducible rfl)
                    try simp only [Act.put, List.setIfInBounds_toArray, List.set_cons_zero, List.set_cons_succ]
                    refine wpG_take (i := 8) (oi := { dst := some 69, op := Op.indexAddr 46 (Operand.tmp 67) (Operand.tmp 68), type := 0, pos := "ref.go:323", after := #[{ on := 6, ground := Ground.data }, { on := 7, ground := Ground.data }, { on := 1, ground := Ground.guard }], guard := some (1, false) }) (v := ?_) rfl (by kernel_rfl) (by kernel_rfl) (by kernel_rfl) (by rfl) ?_ ?_
                    rotate_left
                    · intro W hW; first | (go_simp; done) | (go_simp; with_reducible rfl)
                    try simp only [Act.put, List.setIfInBounds_toArray, List.set_cons_zero, List.set_cons_succ]
                    refine wpG_take (i := 9) (oi := { dst := some 70, op := Op.fieldAddr 52 (Operand.tmp 69) 1, type := 0, pos := "ref.go:323", after := #[{ on := 8, ground := Ground.data }, { on := 1, ground := Ground.guard }], guard := some (1, false) }) (v := ?_) rfl (by kernel_rfl) (by kernel_rfl) (by kernel_rfl) (by rfl) ?_ ?_
                    rotate_left
                    · intro W hW; first | (go_simp; done) | (go_simp; with_reducible rfl)
                    try simp only [Act.put, List.setIfInBounds_toArray, List.set_cons_zero, List.set_cons_succ]
                    refine wpG_take (i := 10) (oi := { dst := some 71, op := Op.load 50 (Operand.tmp 70), type := 50, pos := "ref.go:323", after := #[{ on := 9, ground := Ground.data }, { on := 1, ground := Ground.guard }], guard := some (1, false) }) (v := ?_) rfl (by kernel_rfl) (by kernel_rfl) (by kernel_rfl) (by rfl) ?_ ?_
                    rotate_left
                    · intro W hW; have hcW := cellDK hq hW; first | (go_simp; done) | (go_simp; with_reducible rfl)
                    try simp only [Act.put, List.setIfInBounds_toArray, List.set_cons_zero, List.set_cons_succ]
                    refine wpG_take (i := 11) (oi := { dst := some 72, op := Op.move (Operand.tmp 13), type := 3, pos := "ref.go:323", after := #[{ on := 1, ground := Ground.guard }], guard := some (1, false) }) (v := ?_) rfl (by kernel_rfl) (by kernel_rfl) (by kernel_rfl) (by rfl) ?_ ?_
                    rotate_left
                    · intro W hW; first | (go_simp; done) | (go_simp; with_reducible rfl)
                    try simp only [Act.put, List.setIfInBounds_toArray, List.set_cons_zero, List.set_cons_succ]
                    refine wpG_take (i := 12) (oi := { dst := some 73, op := Op.indexAddr 50 (Operand.tmp 71) (Operand.tmp 72), type := 0, pos := "ref.go:323", after := #[{ on := 10, ground := Ground.data }, { on := 11, ground := Ground.data }, { on := 1, ground := Ground.guard }], guard := some (1, false) }) (v := ?_) rfl (by kernel_rfl) (by kernel_rfl) (by kernel_rfl) (by rfl) ?_ ?_
                    rotate_left
                    · intro W hW; first | (go_simp; done) | (go_simp; with_reducible rfl)
                    try simp only [Act.put, List.setIfInBounds_toArray, List.set_cons_zero, List.set_cons_succ]
                    refine wpG_take (i := 13) (oi := { dst := some 74, op := Op.load 57 (Operand.tmp 73), type := 57, pos := "ref.go:323", after := #[{ on := 12, ground := Ground.data }, { on := 1, ground := Ground.guard }], guard := some (1, false) }) (v := ?_) rfl (by kernel_rfl) (by kernel_rfl) (by kernel_rfl) (by rfl) ?_ ?_
                    rotate_left
                    · intro W hW; refine Eq.trans (exec_load_rng 57 _ (by rfl) (by rfl) [.bool yb, .int .i64 yx] (rngB (rngK HY.out HBk.out) hW) Tryz.underlying57 rfl (infoKyR _ _)) ?_; with_reducible rfl
                    try simp only [Act.put, List.setIfInBounds_toArray, List.set_cons_zero, List.set_cons_succ]
                    refine wpG_take (i := 14) (oi := { dst := some 75, op := Op.binOp BinOp.eql 57 (Operand.tmp 66) (Operand.tmp 74) 57, type := 4, pos := "ref.go:323", after := #[{ on := 5, ground := Ground.data }, { on := 13, ground := Ground.data }, { on := 1, ground := Ground.guard }], guard := some (1, false) }) (v := ?_) rfl (by kernel_rfl) (by kernel_rfl) (by kernel_rfl) (by rfl) ?_ ?_
                    rotate_left
                    · intro W hW; first | (go_simp; done) | (go_simp; with_reducible rfl)
                    try simp only [Act.put, List.setIfInBounds_toArray, List.set_cons_zero, List.set_cons_succ]
                    refine wpG_take (i := 15) (oi := { dst := some 76, op := Op.pick (Operand.tmp 62) (Operand.const (Value.bool true)) (Operand.tmp 75), type := 4, pos := "ref.go:323", after := #[{ on := 1, ground := Ground.data }, { on := 14, ground := Ground.data }], guard := none }) (v := ?_) rfl (by kernel_rfl) (by kernel_rfl) (by kernel_rfl) (by rfl) ?_ ?_
                    rotate_left
                    · intro W hW; first | (go_simp; done) | (go_simp; with_reducible rfl)
                    try simp only [Act.put, List.setIfInBounds_toArray, List.set_cons_zero, List.set_cons_succ]
                    refine wpG_take (i := 16) (oi := { dst := some 12, op := Op.assign (Operand.tmp 76), type := 4, pos := "ref.go:323", after := #[{ on := 15, ground := Ground.data }, { on := 1, ground := Ground.chain }, { on := 0, ground := Ground.phase }, { on := 1, ground := Ground.phase }, { on := 2, ground := Ground.phase }, { on := 3, ground := Ground.phase }, { on := 4, ground := Ground.phase }, { on := 5, ground := Ground.phase }, { on := 6, ground := Ground.phase }, { on := 7, ground := Ground.phase }, { on := 8, ground := Ground.phase }, { on := 9, ground := Ground.phase }, { on := 10, ground := Ground.phase }, { on := 11, ground := Ground.phase }, { on := 12, ground := Ground.phase }, { on := 13, ground := Ground.phase }, { on := 14, ground := Ground.phase }, { on := 15, ground := Ground.phase }], guard := none }) (v := ?_) rfl (by kernel_rfl) (by kernel_rfl) (by kernel_rfl) (by rfl) ?_ ?_
                    rotate_left
                    · intro W hW; first | (go_simp; done) | (go_simp; with_reducible rfl)
                    try simp only [Act.put, List.setIfInBounds_toArray, List.set_cons_zero, List.set_cons_succ]
                    refine wpG_done (by kernel_rfl) ?_
                    go_wp2
                    go_roundw
                    case rel => exact ⟨k + 1, _, by omega, by go_num, rfl, HT2.out _ (by simp [*]), HBk.out.drew⟩
                    case measure => simp [intOf] <;> omega
                  · go_wp2_with fail
                    refine wpG_begin (by kernel_rfl) ?_
                    refine wpG_take (i := 0) (oi := { dst := some 61, op := Op.move (Operand.tmp 12), type := 4, pos := "ref.go:323", after := #[], guard := none }) (v := ?_) rfl (by kernel_rfl) (by kernel_rfl) (by kernel_rfl) (by rfl) ?_ ?_
                    rotate_left
                    · intro W hW; first | (go_simp; done) | (go_simp; with_reducible rfl)
                    try simp only [Act.put, List.setIfInBounds_toArray, List.set_cons_zero, List.set_cons_succ]
                    refine wpG_take (i := 1) (oi := { dst := some 62, op := Op.move (Operand.tmp 61), type := 4, pos := "ref.go:323", after := #[{ on := 0, ground := Ground.data }], guard := none }) (v := ?_) rfl (by kernel_rfl) (by kernel_rfl) (by kernel_rfl) (by rfl) ?_ ?_
                    rotate_left
                    · intro W hW; first | (go_simp; done) | (go_simp; with_reducible rfl)
                    try simp only [Act.put, List.setIfInBounds_toArray, List.set_cons_zero, List.set_cons_succ]
                    refine wpG_take (i := 2) (oi := { dst := some 63, op := Op.move (Operand.tmp 3), type := 50, pos := "ref.go:323", after := #[{ on := 1, ground := Ground.guard }], guard := some (1, false) }) (v := ?_) rfl (by kernel_rfl) (by kernel_rfl) (by kernel_rfl) (by rfl) ?_ ?_
                    rotate_left
                    · intro W hW; first | (go_simp; done) | (go_simp; with_reducible rfl)
                    try simp only [Act.put, List.setIfInBounds_toArray, List.set_cons_zero, List.set_cons_succ]
                    refine wpG_take (i := 3) (oi := { dst := some 64, op := Op.move (Operand.tmp 14), type := 3, pos := "ref.go:323", after := #[{ on := 1, ground := Ground.guard }], guard := some (1, false) }) (v := ?_) rfl (by kernel_rfl) (by kernel_rfl) (by kernel_rfl) (by rfl) ?_ ?_
                    rotate_left
                    · intro W hW; first | (go_simp; done) | (go_simp; with_reducible rfl)
                    try simp only [Act.put, List.setIfInBounds_toArray, List.set_cons_zero, List.set_cons_succ]
                    refine wpG_take (i := 4) (oi := { dst := some 65, op := Op.indexAddr 50 (Operand.tmp 63) (Operand.tmp 64), type := 0, pos := "ref.go:323", after := #[{ on := 2, ground := Ground.data }, { on := 3, ground := Ground.data }, { on := 1, ground := Ground.guard }], guard := some (1, false) }) (v := ?_) rfl (by kernel_rfl) (by kernel_rfl) (by kernel_rfl) (by rfl) ?_ ?_
                    rotate_left
                    · intro W hW; first | (go_simp; done) | (go_simp; with_reducible rfl)
                    try simp only [Act.put, List.setIfInBounds_toArray, List.set_cons_zero, List.set_cons_succ]
                    refine wpG_take (i := 5) (oi := { dst := some 66, op := Op.load 57 (Operand.tmp 65), type := 57, pos := "ref.go:323", after := #[{ on := 4, ground := Ground.data }, { on := 1, ground := Ground.guard }], guard := some (1, false) }) (v := ?_) rfl (by kernel_rfl) (by kernel_rfl) (by kernel_rfl) (by rfl) ?_ ?_
                    rotate_left
                    · intro W hW; refine Eq.trans (exec_load_rng 57 _ (by rfl) (by rfl) [.bool zb, .int .i64 zx] (rngB (rngK HZ.out HBk.out) hW) Tryz.underlying57 rfl (infoKyR _ _)) ?_; with_reducible rfl
                    try simp only [Act.put, List.setIfInBounds_toArray, List.set_cons_zero, List.set_cons_succ]
                    refine wpG_take (i := 6) (oi := { dst := some 67, op := Op.move (Operand.tmp 10), type := 46, pos := "ref.go:323", after := #[{ on := 1, ground := Ground.guard }], guard := some (1, false) }) (v := ?_) rfl (by kernel_rfl) (by kernel_rfl) (by kernel_rfl) (by rfl) ?_ ?_
                    rotate_left
                    · intro W hW; first | (go_simp; done) | (go_simp; with_reducible rfl)
                    try simp only [Act.put, List.setIfInBounds_toArray, List.set_cons_zero, List.set_cons_succ]
                    refine wpG_take (i := 7) (oi := { dst := some 68, op := Op.move (Operand.tmp 11), type := 3, pos := "ref.go:323", after := #[{ on := 1, ground := Ground.guard }], guard := some (1, false) }) (v := ?_) rfl (by kernel_rfl) (by kernel_rfl) (by kernel_rfl) (by rfl) ?_ ?_
                    rotate_left
                    · intro W hW; first | (go_simp; done) | (go_simp; with_reducible rfl)
                    try simp only [Act.put, List.setIfInBounds_toArray, List.set_cons_zero, List.set_cons_succ]
                    refine wpG_take (i := 8) (oi := { dst := some 69, op := Op.indexAddr 46 (Operand.tmp 67) (Operand.tmp 68), type := 0, pos := "ref.go:323", after := #[{ on := 6, ground := Ground.data }, { on := 7, ground := Ground.data }, { on := 1, ground := Ground.guard }], guard := some (1, false) }) (v := ?_) rfl (by kernel_rfl) (by kernel_rfl) (by kernel_rfl) (by rfl) ?_ ?_
                    rotate_left
                    · intro W hW; first | (go_simp; done) | (go_simp; with_reducible rfl)
                    try simp only [Act.put, List.setIfInBounds_toArray, List.set_cons_zero, List.set_cons_succ]
                    refine wpG_take (i := 9) (oi := { dst := some 70, op := Op.fieldAddr 52 (Operand.tmp 69) 1, type := 0, pos := "ref.go:323", after := #[{ on := 8, ground := Ground.data }, { on := 1, ground := Ground.guard }], guard := some (1, false) }) (v := ?_) rfl (by kernel_rfl) (by kernel_rfl) (by kernel_rfl) (by rfl) ?_ ?_
                    rotate_left
                    · intro W hW; first | (go_simp; done) | (go_simp; with_reducible rfl)
                    try simp only [Act.put, List.setIfInBounds_toArray, List.set_cons_zero, List.set_cons_succ]
                    refine wpG_take (i := 10) (oi := { dst := some 71, op := Op.load 50 (Operand.tmp 70), type := 50, pos := "ref.go:323", after := #[{ on := 9, ground := Ground.data }, { on := 1, ground := Ground.guard }], guard := some (1, false) }) (v := ?_) rfl (by kernel_rfl) (by kernel_rfl) (by kernel_rfl) (by rfl) ?_ ?_
                    rotate_left
                    · intro W hW; have hcW := cellDK hq hW; first | (go_simp; done) | (go_simp; with_reducible rfl)
                    try simp only [Act.put, List.setIfInBounds_toArray, List.set_cons_zero, List.set_cons_succ]
                    refine wpG_take (i := 11) (oi := { dst := some 72, op := Op.move (Operand.tmp 13), type := 3, pos := "ref.go:323", after := #[{ on := 1, ground := Ground.guard }], guard := some (1, false) }) (v := ?_) rfl (by kernel_rfl) (by kernel_rfl) (by kernel_rfl) (by rfl) ?_ ?_
                    rotate_left
                    · intro W hW; first | (go_simp; done) | (go_simp; with_reducible rfl)
                    try simp only [Act.put, List.setIfInBounds_toArray, List.set_cons_zero, List.set_cons_succ]
                    refine wpG_take (i := 12) (oi := { dst := some 73, op := Op.indexAddr 50 (Operand.tmp 71) (Operand.tmp 72), type := 0, pos := "ref.go:323", after := #[{ on := 10, ground := Ground.data }, { on := 11, ground := Ground.data }, { on := 1, ground := Ground.guard }], guard := some (1, false) }) (v := ?_) rfl (by kernel_rfl) (by kernel_rfl) (by kernel_rfl) (by rfl) ?_ ?_
                    rotate_left
                    · intro W hW; first | (go_simp; done) | (go_simp; with_reducible rfl)
                    try simp only [Act.put, List.setIfInBounds_toArray, List.set_cons_zero, List.set_cons_succ]
                    refine wpG_take (i := 13) (oi := { dst := some 74, op := Op.load 57 (Operand.tmp 73), type := 57, pos := "ref.go:323", after := #[{ on := 12, ground := Ground.data }, { on := 1, ground := Ground.guard }], guard := some (1, false) }) (v := ?_) rfl (by kernel_rfl) (by kernel_rfl) (by kernel_rfl) (by rfl) ?_ ?_
                    rotate_left
                    · intro W hW; refine Eq.trans (exec_load_rng 57 _ (by rfl) (by rfl) [.bool yb, .int .i64 yx] (rngB (rngK HY.out HBk.out) hW) Tryz.underlying57 rfl (infoKyR _ _)) ?_; with_reducible rfl
                    try simp only [Act.put, List.setIfInBounds_toArray, List.set_cons_zero, List.set_cons_succ]
                    refine wpG_take (i := 14) (oi := { dst := some 75, op := Op.binOp BinOp.eql 57 (Operand.tmp 66) (Operand.tmp 74) 57, type := 4, pos := "ref.go:323", after := #[{ on := 5, ground := Ground.data }, { on := 13, ground := Ground.data }, { on := 1, ground := Ground.guard }], guard := some (1, false) }) (v := ?_) rfl (by kernel_rfl) (by kernel_rfl) (by kernel_rfl) (by rfl) ?_ ?_
                    rotate_left
                    · intro W hW; first | (go_simp; done) | (go_simp; with_reducible rfl)
                    try simp only [Act.put, List.setIfInBounds_toArray, List.set_cons_zero, List.set_cons_succ]
                    refine wpG_take (i := 15) (oi := { dst := some 76, op := Op.pick (Operand.tmp 62) (Operand.const (Value.bool true)) (Operand.tmp 75), type := 4, pos := "ref.go:323", after := #[{ on := 1, ground := Ground.data }, { on := 14, ground := Ground.data }], guard := none }) (v := ?_) rfl (by kernel_rfl) (by kernel_rfl) (by kernel_rfl) (by rfl) ?_ ?_
                    rotate_left
                    · intro W hW; first | (go_simp; done) | (go_simp; with_reducible rfl)
                    try simp only [Act.put, List.setIfInBounds_toArray, List.set_cons_zero, List.set_cons_succ]
                    refine wpG_take (i := 16) (oi := { dst := some 12, op := Op.assign (Operand.tmp 76), type := 4, pos := "ref.go:323", after := #[{ on := 15, ground := Ground.data }, { on := 1, ground := Ground.chain }, { on := 0, ground := Ground.phase }, { on := 1, ground := Ground.phase }, { on := 2, ground := Ground.phase }, { on := 3, ground := Ground.phase }, { on := 4, ground := Ground.phase }, { on := 5, ground := Ground.phase }, { on := 6, ground := Ground.phase }, { on := 7, ground := Ground.phase }, { on := 8, ground := Ground.phase }, { on := 9, ground := Ground.phase }, { on := 10, ground := Ground.phase }, { on := 11, ground := Ground.phase }, { on := 12, ground := Ground.phase }, { on := 13, ground := Ground.phase }, { on := 14, ground := Ground.phase }, { on := 15, ground := Ground.phase }], guard := none }) (v := ?_) rfl (by kernel_rfl) (by kernel_rfl) (by kernel_rfl) (by rfl) ?_ ?_
                    rotate_left
                    · intro W hW; first | (go_simp; done) | (go_simp; with_reducible rfl)
                    try simp only [Act.put, List.setIfInBounds_toArray, List.set_cons_zero, List.set_cons_succ]
                    refine wpG_done (by kernel_rfl) ?_
                    go_wp2
                    go_roundw
                    case rel => exact ⟨k + 1, _, by omega, by go_num, rfl, HT2.out _ (by simp [*]), HBk.out.drew⟩
                    case measure => simp [intOf] <;> omega
                · go_wp2_with fail
                  refine wpG_begin (by kernel_rfl) ?_
                  refine wpG_take (i := 0) (oi := { dst := some 61, op := Op.move (Operand.tmp 12), type := 4, pos := "ref.go:323", after := #[], guard := none }) (v := ?_) rfl (by kernel_rfl) (by kernel_rfl) (by kernel_rfl) (by rfl) ?_ ?_
                  rotate_left
                  · intro W hW; first | (go_simp; done) | (go_simp; with_reducible rfl)
                  try simp only [Act.put, List.setIfInBounds_toArray, List.set_cons_zero, List.set_cons_succ]
                  refine wpG_take (i := 1) (oi := { dst := some 62, op := Op.move (Operand.tmp 61), type := 4, pos := "ref.go:323", after := #[{ on := 0, ground := Ground.data }], guard := none }) (v := ?_) rfl (by kernel_rfl) (by kernel_rfl) (by kernel_rfl) (by rfl) ?_ ?_
                  rotate_left
                  · intro W hW; first | (go_simp; done) | (go_simp; with_reducible rfl)
                  try simp only [Act.put, List.setIfInBounds_toArray, List.set_cons_zero, List.set_cons_succ]
                  refine wpG_take (i := 2) (oi := { dst := some 63, op := Op.move (Operand.tmp 3), type := 50, pos := "ref.go:323", after := #[{ on := 1, ground := Ground.guard }], guard := some (1, false) }) (v := ?_) rfl (by kernel_rfl) (by kernel_rfl) (by kernel_rfl) (by rfl) ?_ ?_
                  rotate_left
                  · intro W hW; first | (go_simp; done) | (go_simp; with_reducible rfl)
                  try simp only [Act.put, List.setIfInBounds_toArray, List.set_cons_zero, List.set_cons_succ]
                  refine wpG_take (i := 3) (oi := { dst := some 64, op := Op.move (Operand.tmp 14), type := 3, pos := "ref.go:323", after := #[{ on := 1, ground := Ground.guard }], guard := some (1, false) }) (v := ?_) rfl (by kernel_rfl) (by kernel_rfl) (by kernel_rfl) (by rfl) ?_ ?_
                  rotate_left
                  · intro W hW; first | (go_simp; done) | (go_simp; with_reducible rfl)
                  try simp only [Act.put, List.setIfInBounds_toArray, List.set_cons_zero, List.set_cons_succ]
                  refine wpG_take (i := 4) (oi := { dst := some 65, op := Op.indexAddr 50 (Operand.tmp 63) (Operand.tmp 64), type := 0, pos := "ref.go:323", after := #[{ on := 2, ground := Ground.data }, { on := 3, ground := Ground.data }, { on := 1, ground := Ground.guard }], guard := some (1, false) }) (v := ?_) rfl (by kernel_rfl) (by kernel_rfl) (by kernel_rfl) (by rfl) ?_ ?_
                  rotate_left
                  · intro W hW; first | (go_simp; done) | (go_simp; with_reducible rfl)
                  try simp only [Act.put, List.setIfInBounds_toArray, List.set_cons_zero, List.set_cons_succ]
                  refine wpG_take (i := 5) (oi := { dst := some 66, op := Op.load 57 (Operand.tmp 65), type := 57, pos := "ref.go:323", after := #[{ on := 4, ground := Ground.data }, { on := 1, ground := Ground.guard }], guard := some (1, false) }) (v := ?_) rfl (by kernel_rfl) (by kernel_rfl) (by kernel_rfl) (by rfl) ?_ ?_
                  rotate_left
                  · intro W hW; refine Eq.trans (exec_load_rng 57 _ (by rfl) (by rfl) [.bool zb, .int .i64 zx] (rngB (rngK HZ.out HBk.out) hW) Tryz.underlying57 rfl (infoKyR _ _)) ?_; with_reducible rfl
                  try simp only [Act.put, List.setIfInBounds_toArray, List.set_cons_zero, List.set_cons_succ]
                  refine wpG_take (i := 6) (oi := { dst := some 67, op := Op.move (Operand.tmp 10), type := 46, pos := "ref.go:323", after := #[{ on := 1, ground := Ground.guard }], guard := some (1, false) }) (v := ?_) rfl (by kernel_rfl) (by kernel_rfl) (by kernel_rfl) (by rfl) ?_ ?_
                  rotate_left
                  · intro W hW; first | (go_simp; done) | (go_simp; with_reducible rfl)
                  try simp only [Act.put, List.setIfInBounds_toArray, List.set_cons_zero, List.set_cons_succ]
                  refine wpG_take (i := 7) (oi := { dst := some 68, op := Op.move (Operand.tmp 11), type := 3, pos := "ref.go:323", after := #[{ on := 1, ground := Ground.guard }], guard := some (1, false) }) (v := ?_) rfl (by kernel_rfl) (by kernel_rfl) (by kernel_rfl) (by rfl) ?_ ?_
                  rotate_left
                  · intro W hW; first | (go_simp; done) | (go_simp; with_reducible rfl)
                  try simp only [Act.put, List.setIfInBounds_toArray, List.set_cons_zero, List.set_cons_succ]
                  refine wpG_take (i := 8) (oi := { dst := some 69, op := Op.indexAddr 46 (Operand.tmp 67) (Operand.tmp 68), type := 0, pos := "ref.go:323", after := #[{ on := 6, ground := Ground.data }, { on := 7, ground := Ground.data }, { on := 1, ground := Ground.guard }], guard := some (1, false) }) (v := ?_) rfl (by kernel_rfl) (by kernel_rfl) (by kernel_rfl) (by rfl) ?_ ?_
                  rotate_left
                  · intro W hW; first | (go_simp; done) | (go_simp; with_reducible rfl)
                  try simp only [Act.put, List.setIfInBounds_toArray, List.set_cons_zero, List.set_cons_succ]
                  refine wpG_take (i := 9) (oi := { dst := some 70, op := Op.fieldAddr 52 (Operand.tmp 69) 1, type := 0, pos := "ref.go:323", after := #[{ on := 8, ground := Ground.data }, { on := 1, ground := Ground.guard }], guard := some (1, false) }) (v := ?_) rfl (by kernel_rfl) (by kernel_rfl) (by kernel_rfl) (by rfl) ?_ ?_
                  rotate_left
                  · intro W hW; first | (go_simp; done) | (go_simp; with_reducible rfl)
                  try simp only [Act.put, List.setIfInBounds_toArray, List.set_cons_zero, List.set_cons_succ]
                  refine wpG_take (i := 10) (oi := { dst := some 71, op := Op.load 50 (Operand.tmp 70), type := 50, pos := "ref.go:323", after := #[{ on := 9, ground := Ground.data }, { on := 1, ground := Ground.guard }], guard := some (1, false) }) (v := ?_) rfl (by kernel_rfl) (by kernel_rfl) (by kernel_rfl) (by rfl) ?_ ?_
                  rotate_left
                  · intro W hW; have hcW := cellDK hq hW; first | (go_simp; done) | (go_simp; with_reducible rfl)
                  try simp only [Act.put, List.setIfInBounds_toArray, List.set_cons_zero, List.set_cons_succ]
                  refine wpG_take (i := 11) (oi := { dst := some 72, op := Op.move (Operand.tmp 13), type := 3, pos := "ref.go:323", after := #[{ on := 1, ground := Ground.guard }], guard := some (1, false) }) (v := ?_) rfl (by kernel_rfl) (by kernel_rfl) (by kernel_rfl) (by rfl) ?_ ?_
                  rotate_left
                  · intro W hW; first | (go_simp; done) | (go_simp; with_reducible rfl)
                  try simp only [Act.put, List.setIfInBounds_toArray, List.set_cons_zero, List.set_cons_succ]
                  refine wpG_take (i := 12) (oi := { dst := some 73, op := Op.indexAddr 50 (Operand.tmp 71) (Operand.tmp 72), type := 0, pos := "ref.go:323", after := #[{ on := 10, ground := Ground.data }, { on := 11, ground := Ground.data }, { on := 1, ground := Ground.guard }], guard := some (1, false) }) (v := ?_) rfl (by kernel_rfl) (by kernel_rfl) (by kernel_rfl) (by rfl) ?_ ?_
                  rotate_left
                  · intro W hW; first | (go_simp; done) | (go_simp; with_reducible rfl)
                  try simp only [Act.put, List.setIfInBounds_toArray, List.set_cons_zero, List.set_cons_succ]
                  refine wpG_take (i := 13) (oi := { dst := some 74, op := Op.load 57 (Operand.tmp 73), type := 57, pos := "ref.go:323", after := #[{ on := 12, ground := Ground.data }, { on := 1, ground := Ground.guard }], guard := some (1, false) }) (v := ?_) rfl (by kernel_rfl) (by kernel_rfl) (by kernel_rfl) (by rfl) ?_ ?_
                  rotate_left
                  · intro W hW; refine Eq.trans (exec_load_rng 57 _ (by rfl) (by rfl) [.bool yb, .int .i64 yx] (rngB (rngK HY.out HBk.out) hW) Tryz.underlying57 rfl (infoKyR _ _)) ?_; with_reducible rfl
                  try simp only [Act.put, List.setIfInBounds_toArray, List.set_cons_zero, List.set_cons_succ]
                  refine wpG_take (i := 14) (oi := { dst := some 75, op := Op.binOp BinOp.eql 57 (Operand.tmp 66) (Operand.tmp 74) 57, type := 4, pos := "ref.go:323", after := #[{ on := 5, ground := Ground.data }, { on := 13, ground := Ground.data }, { on := 1, ground := Ground.guard }], guard := some (1, false) }) (v := ?_) rfl (by kernel_rfl) (by kernel_rfl) (by kernel_rfl) (by rfl) ?_ ?_
                  rotate_left
                  · intro W hW; first | (go_simp; done) | (go_simp; with_reducible rfl)
                  try simp only [Act.put, List.setIfInBounds_toArray, List.set_cons_zero, List.set_cons_succ]
                  refine wpG_take (i := 15) (oi := { dst := some 76, op := Op.pick (Operand.tmp 62) (Operand.const (Value.bool true)) (Operand.tmp 75), type := 4, pos := "ref.go:323", after := #[{ on := 1, ground := Ground.data }, { on := 14, ground := Ground.data }], guard := none }) (v := ?_) rfl (by kernel_rfl) (by kernel_rfl) (by kernel_rfl) (by rfl) ?_ ?_
                  rotate_left
                  · intro W hW; first | (go_simp; done) | (go_simp; with_reducible rfl)
                  try simp only [Act.put, List.setIfInBounds_toArray, List.set_cons_zero, List.set_cons_succ]
                  refine wpG_take (i := 16) (oi := { dst := some 12, op := Op.assign (Operand.tmp 76), type := 4, pos := "ref.go:323", after := #[{ on := 15, ground := Ground.data }, { on := 1, ground := Ground.chain }, { on := 0, ground := Ground.phase }, { on := 1, ground := Ground.phase }, { on := 2, ground := Ground.phase }, { on := 3, ground := Ground.phase }, { on := 4, ground := Ground.phase }, { on := 5, ground := Ground.phase }, { on := 6, ground := Ground.phase }, { on := 7, ground := Ground.phase }, { on := 8, ground := Ground.phase }, { on := 9, ground := Ground.phase }, { on := 10, ground := Ground.phase }, { on := 11, ground := Ground.phase }, { on := 12, ground := Ground.phase }, { on := 13, ground := Ground.phase }, { on := 14, ground := Ground.phase }, { on := 15, ground := Ground.phase }], guard := none }) (v := ?_) rfl (by kernel_rfl) (by kernel_rfl) (by kernel_rfl) (by rfl) ?_ ?_
                  rotate_left
                  · intro W hW; first | (go_simp; done) | (go_simp; with_reducible rfl)
                  try simp only [Act.put, List.setIfInBounds_toArray, List.set_cons_zero, List.set_cons_succ]
                  refine wpG_done (by kernel_rfl) ?_
                  go_wp2
                  go_roundw
                  case rel => exact ⟨k + 1, _, by omega, by go_num, rfl, HT2.out _ (by simp [*]), HBk.out.drew⟩
                  case measure => simp [intOf] <;> omega
              · go_wp2_with fail
                refine wpG_begin (by kernel_rfl) ?_
                refine wpG_take (i := 0) (oi := { dst := some 61, op := Op.move (Operand.tmp 12), type := 4, pos := "ref.go:323", after := #[], guard := none }) (v := ?_) rfl (by kernel_rfl) (by kernel_rfl) (by kernel_rfl) (by rfl) ?_ ?_
                rotate_left
                · intro W hW; first | (go_simp; done) | (go_simp; with_reducible rfl)
                try simp only [Act.put, List.setIfInBounds_toArray, List.set_cons_zero, List.set_cons_succ]
                refine wpG_take (i := 1) (oi := { dst := some 62, op := Op.move (Operand.tmp 61), type := 4, pos := "ref.go:323", after := #[{ on := 0, ground := Ground.data }], guard := none }) (v := ?_) rfl (by kernel_rfl) (by kernel_rfl) (by kernel_rfl) (by rfl) ?_ ?_
                rotate_left
                · intro W hW; first | (go_simp; done) | (go_simp; with_reducible rfl)
                try simp only [Act.put, List.setIfInBounds_toArray, List.set_cons_zero, List.set_cons_succ]
                refine wpG_skip (i := 2) (oi := { dst := some 63, op := Op.move (Operand.tmp 3), type := 50, pos := "ref.go:323", after := #[{ on := 1, ground := Ground.guard }], guard := some (1, false) }) rfl (by kernel_rfl) (by kernel_rfl) (by kernel_rfl) (by rfl) ?_
                try simp only [Act.put, List.setIfInBounds_toArray, List.set_cons_zero, List.set_cons_succ]
                refine wpG_skip (i := 3) (oi := { dst := some 64, op := Op.move (Operand.tmp 14), type := 3, pos := "ref.go:323", after := #[{ on := 1, ground := Ground.guard }], guard := some (1, false) }) rfl (by kernel_rfl) (by kernel_rfl) (by kernel_rfl) (by rfl) ?_
                try simp only [Act.put, List.setIfInBounds_toArray, List.set_cons_zero, List.set_cons_succ]
                refine wpG_skip (i := 4) (oi := { dst := some 65, op := Op.indexAddr 50 (Operand.tmp 63) (Operand.tmp 64), type := 0, pos := "ref.go:323", after := #[{ on := 2, ground := Ground.data }, { on := 3, ground := Ground.data }, { on := 1, ground := Ground.guard }], guard := some (1, false) }) rfl (by kernel_rfl) (by kernel_rfl) (by kernel_rfl) (by rfl) ?_
                try simp only [Act.put, List.setIfInBounds_toArray, List.set_cons_zero, List.set_cons_succ]
                refine wpG_skip (i := 5) (oi := { dst := some 66, op := Op.load 57 (Operand.tmp 65), type := 57, pos := "ref.go:323", after := #[{ on := 4, ground := Ground.data }, { on := 1, ground := Ground.guard }], guard := some (1, false) }) rfl (by kernel_rfl) (by kernel_rfl) (by kernel_rfl) (by rfl) ?_
                try simp only [Act.put, List.setIfInBounds_toArray, List.set_cons_zero, List.set_cons_succ]
                refine wpG_skip (i := 6) (oi := { dst := some 67, op := Op.move (Operand.tmp 10), type := 46, pos := "ref.go:323", after := #[{ on := 1, ground := Ground.guard }], guard := some (1, false) }) rfl (by kernel_rfl) (by kernel_rfl) (by kernel_rfl) (by rfl) ?_
                try simp only [Act.put, List.setIfInBounds_toArray, List.set_cons_zero, List.set_cons_succ]
                refine wpG_skip (i := 7) (oi := { dst := some 68, op := Op.move (Operand.tmp 11), type := 3, pos := "ref.go:323", after := #[{ on := 1, ground := Ground.guard }], guard := some (1, false) }) rfl (by kernel_rfl) (by kernel_rfl) (by kernel_rfl) (by rfl) ?_
                try simp only [Act.put, List.setIfInBounds_toArray, List.set_cons_zero, List.set_cons_succ]
                refine wpG_skip (i := 8) (oi := { dst := some 69, op := Op.indexAddr 46 (Operand.tmp 67) (Operand.tmp 68), type := 0, pos := "ref.go:323", after := #[{ on := 6, ground := Ground.data }, { on := 7, ground := Ground.data }, { on := 1, ground := Ground.guard }], guard := some (1, false) }) rfl (by kernel_rfl) (by kernel_rfl) (by kernel_rfl) (by rfl) ?_
                try simp only [Act.put, List.setIfInBounds_toArray, List.set_cons_zero, List.set_cons_succ]
                refine wpG_skip (i := 9) (oi := { dst := some 70, op := Op.fieldAddr 52 (Operand.tmp 69) 1, type := 0, pos := "ref.go:323", after := #[{ on := 8, ground := Ground.data }, { on := 1, ground := Ground.guard }], guard := some (1, false) }) rfl (by kernel_rfl) (by kernel_rfl) (by kernel_rfl) (by rfl) ?_
                try simp only [Act.put, List.setIfInBounds_toArray, List.set_cons_zero, List.set_cons_succ]
                refine wpG_skip (i := 10) (oi := { dst := some 71, op := Op.load 50 (Operand.tmp 70), type := 50, pos := "ref.go:323", after := #[{ on := 9, ground := Ground.data }, { on := 1, ground := Ground.guard }], guard := some (1, false) }) rfl (by kernel_rfl) (by kernel_rfl) (by kernel_rfl) (by rfl) ?_
                try simp only [Act.put, List.setIfInBounds_toArray, List.set_cons_zero, List.set_cons_succ]
                refine wpG_skip (i := 11) (oi := { dst := some 72, op := Op.move (Operand.tmp 13), type := 3, pos := "ref.go:323", after := #[{ on := 1, ground := Ground.guard }], guard := some (1, false) }) rfl (by kernel_rfl) (by kernel_rfl) (by kernel_rfl) (by rfl) ?_
                try simp only [Act.put, List.setIfInBounds_toArray, List.set_cons_zero, List.set_cons_succ]
                refine wpG_skip (i := 12) (oi := { dst := some 73, op := Op.indexAddr 50 (Operand.tmp 71) (Operand.tmp 72), type := 0, pos := "ref.go:323", after := #[{ on := 10, ground := Ground.data }, { on := 11, ground := Ground.data }, { on := 1, ground := Ground.guard }], guard := some (1, false) }) rfl (by kernel_rfl) (by kernel_rfl) (by kernel_rfl) (by rfl) ?_
                try simp only [Act.put, List.setIfInBounds_toArray, List.set_cons_zero, List.set_cons_succ]
                refine wpG_skip (i := 13) (oi := { dst := some 74, op := Op.load 57 (Operand.tmp 73), type := 57, pos := "ref.go:323", after := #[{ on := 12, ground := Ground.data }, { on := 1, ground := Ground.guard }], guard := some (1, false) }) rfl (by kernel_rfl) (by kernel_rfl) (by kernel_rfl) (by rfl) ?_
                try simp only [Act.put, List.setIfInBounds_toArray, List.set_cons_zero, List.set_cons_succ]
                refine wpG_skip (i := 14) (oi := { dst := some 75, op := Op.binOp BinOp.eql 57 (Operand.tmp 66) (Operand.tmp 74) 57, type := 4, pos := "ref.go:323", after := #[{ on := 5, ground := Ground.data }, { on := 13, ground := Ground.data }, { on := 1, ground := Ground.guard }], guard := some (1, false) }) rfl (by kernel_rfl) (by kernel_rfl) (by kernel_rfl) (by rfl) ?_
                try simp only [Act.put, List.setIfInBounds_toArray, List.set_cons_zero, List.set_cons_succ]
                refine wpG_take (i := 15) (oi := { dst := some 76, op := Op.pick (Operand.tmp 62) (Operand.const (Value.bool true)) (Operand.tmp 75), type := 4, pos := "ref.go:323", after := #[{ on := 1, ground := Ground.data }, { on := 14, ground := Ground.data }], guard := none }) (v := ?_) rfl (by kernel_rfl) (by kernel_rfl) (by kernel_rfl) (by rfl) ?_ ?_
                rotate_left
                · intro W hW; first | (go_simp; done) | (go_simp; with_reducible rfl)
                try simp only [Act.put, List.setIfInBounds_toArray, List.set_cons_zero, List.set_cons_succ]
                refine wpG_take (i := 16) (oi := { dst := some 12, op := Op.assign (Operand.tmp 76), type := 4, pos := "ref.go:323", after := #[{ on := 15, ground := Ground.data }, { on := 1, ground := Ground.chain }, { on := 0, ground := Ground.phase }, { on := 1, ground := Ground.phase }, { on := 2, ground := Ground.phase }, { on := 3, ground := Ground.phase }, { on := 4, ground := Ground.phase }, { on := 5, ground := Ground.phase }, { on := 6, ground := Ground.phase }, { on := 7, ground := Ground.phase }, { on := 8, ground := Ground.phase }, { on := 9, ground := Ground.phase }, { on := 10, ground := Ground.phase }, { on := 11, ground := Ground.phase }, { on := 12, ground := Ground.phase }, { on := 13, ground := Ground.phase }, { on := 14, ground := Ground.phase }, { on := 15, ground := Ground.phase }], guard := none }) (v := ?_) rfl (by kernel_rfl) (by kernel_rfl) (by kernel_rfl) (by rfl) ?_ ?_
                rotate_left
                · intro W hW; first | (go_simp; done) | (go_simp; with_reducible rfl)
                try simp only [Act.put, List.setIfInBounds_toArray, List.set_cons_zero, List.set_cons_succ]
                refine wpG_done (by kernel_rfl) ?_
                go_wp2
                go_roundw
                case rel => exact ⟨k + 1, _, by omega, by go_num, rfl, HT2.out _ (by simp [*]), HBk.out.drew⟩
                case measure => simp [intOf] <;> omega
            · have hdk : decide ((k : Int) < (K : Int)) = false := decide_eq_false (by omega)
              have hkI : (K : Int) ≤ (k : Int) := by omega
              have HE : Hid (t = (s0 || anT (fun k => known.any fun q => q == k) keys (j + 1))) := by
                refine HJ2.out _ ?_
                rw [HT.out, show k = known.length by have := HKn.out; omega, anT_all]
              go_wp2
              go_roundw
              case rel => exact ⟨j + 1, t, by omega, by go_num, rfl, HE, HBk⟩
              case measure => simp [intOf] <;> omega
        · have hdj : decide ((j : Int) < (M : Int)) = false := decide_eq_false (by omega)
          have hjI : (M : Int) ≤ (j : Int) := by omega
          have HE : Hid (s = drE curve kem known (T, keys)) := by
            show _ = _
            rw [HJ.out, show j = keys.length by have := HM.out; omega, anT_all, HS0.out]
            rfl
          cases ok
          · go_wp2
            go_roundw
            case rel => exact ⟨i + 1, _, by omega, by go_num, rfl, HA2.out s HE.out _ rfl, HBj⟩
            case measure => simp [intOf] <;> omega
          · go_wp2
            go_roundw
            case rel => exact ⟨i + 1, _, by omega, by go_num, rfl, HA2.out s HE.out _ rfl, HBj⟩
            case measure => simp [intOf] <;> omega
    · have hd : decide ((i : Int) < (n : Int)) = false := decide_eq_false (by omega)
      have hiI : (n : Int) ≤ (i : Int) := by omega
      have HE : Hid (ok = drB p curve kem known) := by
        show _ = _
        rw [HA.out, show i = LK.length by have := HN.out; omega]
        exact HH.out
      go_wp2
      go_ret
      exact ⟨congrArg (fun b => Ending.returned (Value.bool b)) HE.out, stepB hbw HBi.out⟩
end Go.Proofs.YtpoibhhijidobaaGreatDoor
