/- What a cipher seals and opens: contracts of package sym, second part. -/
import Derived.Test.YtliiofjcghdjoaaDoorSm16a
import Derived.Shelf.Abstract
namespace Go.Proofs.YtliiofjcghdjoaaDoor
open Go.ChangeShapes Go.WideShapes Go.ChangeAt Go.RowKit
set_option linter.unusedSimpArgs false
set_option linter.unusedVariables false

/-- One step taken with the next number: the cipher then, what is told, an error. -/
def tkC (c : Cph) (b : List UInt8) (R : List UInt8 × Int) : Cph × List UInt8 × Int :=
  if c.key.length = 0 then (c, b, 0) else if c.key.length ≠ 32 then (c, [], 1) else if c.n = 18446744073709551615 then (c, [], 31) else if R.2 = 0 then (⟨c.key, c.n + 1⟩, R.1, 0) else (c, [], R.2)
theorem tkC_cases (c : Cph) (b : List UInt8) (R : List UInt8 × Int) : (c.key.length = 0 ∧ tkC c b R = (c, b, 0)) ∨ (c.key.length ≠ 0 ∧ c.key.length ≠ 32 ∧ tkC c b R = (c, [], 1)) ∨ (c.key.length = 32 ∧ c.n = 18446744073709551615 ∧ tkC c b R = (c, [], 31)) ∨ (c.key.length = 32 ∧ c.n ≠ 18446744073709551615 ∧ R.2 = 0 ∧ tkC c b R = (⟨c.key, c.n + 1⟩, R.1, 0)) ∨ (c.key.length = 32 ∧ c.n ≠ 18446744073709551615 ∧ R.2 ≠ 0 ∧ tkC c b R = (c, [], R.2)) := by
  unfold tkC
  by_cases h0 : c.key.length = 0
  · exact .inl ⟨h0, if_pos h0⟩
  · by_cases h1 : c.key.length = 32
    · by_cases h2 : c.n = 18446744073709551615
      · exact .inr (.inr (.inl ⟨h1, h2, by rw [if_neg h0, if_neg (by omega), if_pos h2]⟩))
      · by_cases h3 : R.2 = 0
        · exact .inr (.inr (.inr (.inl ⟨h1, h2, h3, by rw [if_neg h0, if_neg (by omega), if_neg h2, if_pos h3]⟩)))
        · exact .inr (.inr (.inr (.inr ⟨h1, h2, h3, by rw [if_neg h0, if_neg (by omega), if_neg h2, if_neg h3]⟩)))
    · exact .inr (.inl ⟨h0, h1, by rw [if_neg h0, if_pos h1]⟩)
theorem seC_tk (c : Cph) (a t : List UInt8) : seC c a t = tkC c t (seA c.key (ncL c.n) a t) := by
  unfold seC tkC
  split
  · rfl
  · split
    · rfl
    · split
      · rfl
      · rw [seA_fit ⟨by omega, ncL_length _⟩, if_pos rfl]
theorem opA_fit {k n : List UInt8} (h : fitN k n) (a s : List UInt8) : opA k n a s = opQ k n a s := if_pos h
theorem opC_tk (c : Cph) (a t : List UInt8) : opC c a t = tkC c t (opA c.key (ncL c.n) a t) := by
  unfold opC tkC
  split
  · rfl
  · split
    · rfl
    · split
      · rfl
      · rw [opA_fit ⟨by omega, ncL_length _⟩]

theorem RdL.lit1r {w : World} {e : TypeId} {v : Value} {l : List UInt8} {b : Nat} (hb : b = w.heap.size) (h1 : Rd w v l) : RdL (w.alloc (.cells #[v] e)) (.slice (some ⟨b, 0, none⟩) 1 1) [v] [l] :=
  RdL.lit _ _ rfl rfl hb (by simp [maxLen]) rfl (fun i hi => by
    match i with
    | 0 => exact h1
    | i + 1 => exact absurd hi (by simp))
theorem New.one16 {e : TypeId} {w w' : World} {v : Value} {l : List UInt8} (h : New e w v [l].flatten w') : New e w v l w' := by
  simpa using h
theorem cellT {w W : World} {p : Addr} {v : Value} (h : w.cell? p = some v) (hb : Below w.heap.size w W) : W.cell? p = some v := by
  rw [hb.cell (World.block_lt_of_cell? _ _ h)]
  exact h
theorem enters16 {f : FuncId} {fn : Func} {c : Code} (hf : Tryd.prog.funcs[f]? = some fn) (hn : (fn.name == "runtime.NumGoroutine") = false) (hb : fn.body = some c) (args : Array Value) (w : World) : (callFunc f args).run Tryd.prog w = .ok (.enter f args) w := enters_of hf hn hb args w

set_option maxRecDepth 100000 in
set_option maxHeartbeats 4000000 in
theorem ctake_any (K : FuncId) (hE : ∀ (args : Array Value) (w : World), (callFunc K args).run Tryd.prog w = .ok (.enter K args) w)
    (c : Cph) (hn : c.n < 18446744073709551616) (b : List UInt8) (hlb : b.length ≤ 3000000) (R : List UInt8 × Int) (g o : Nat) (bt : TypeId) (hbt : 5 ≠ bt) (pre post : List Value) (ho : pre.length = o) (ak aa : Option Addr) (ck la ca : Nat) (vb : Value) (w : World)
    (hB : BlkAt g bt (inB pre post (.slice ak c.key.length ck) c.n) w) (hk : Rd w (.slice ak c.key.length ck) c.key) (hb : Rd w vb b)
    (hK : ∀ W vn, Below w.heap.size w W → Rd W vn (ncL c.n) → Calls Tryd.prog K #[.agg #[.slice ak c.key.length ck, vn, .slice aa la ca], vb] W fun e w' => ∃ r, e = .returned (.tuple #[r, .int .i64 R.2]) ∧ New 5 W r R.1 w') :
    Calls Tryd.prog 38 #[.pointer (some ⟨g, o, none⟩), .func (.func K) #[] #[], .slice aa la ca, vb] w fun e w' => ∃ x, e = .returned (.tuple #[x, .int .i64 (tkC c b R).2.2]) ∧ Ow 5 w.heap.size x (tkC c b R).2.1 w' ∧ Chg (fun i => i = g) w w' ∧ BlkAt g bt (inB pre post (.slice ak c.key.length ck) (tkC c b R).1.n) w' := by
  have hcase := tkC_cases c b R
  obtain ⟨key, n⟩ := c
  obtain ⟨R1, R2⟩ := R
  generalize tkC ⟨key, n⟩ b (R1, R2) = T at hcase ⊢
  obtain ⟨-, -, -, hk2, hk3, -, -⟩ := id hk
  obtain ⟨ab, cb, rfl, -⟩ := id hb
  subst ho
  replace hB : BlkAt g bt (inB pre post (.slice ak key.length ck) n) w := hB
  have c0 : w.cell? ⟨g, pre.length, none⟩ = some (.slice ak key.length ck) := by rw [hB.cell]; exact inB_get0 _ _ _ _
  have c1 : w.cell? ⟨g, pre.length + 1, none⟩ = some (.int .u64 (n : Int)) := by rw [hB.cell]; exact inB_get1 _ _ _ _
  have HB : Hid (BlkAt g bt (inB pre post (.slice ak key.length ck) n) w) := hB
  have HBB : Hid (Rd w (.slice ab b.length cb) b) := hb
  have HK : Hid _ := hK
  have HN : Hid (n < 18446744073709551616) := hn
  have HLB : Hid (b.length ≤ 3000000) := hlb
  have HBT : Hid (5 ≠ bt) := hbt
  clear hB hb hK hn hlb hbt hk
  rcases hcase with ⟨h1, rfl⟩ | ⟨h1, h2, rfl⟩ | ⟨h1, h2, rfl⟩ | ⟨h1, h2, h3, rfl⟩ | ⟨h1, h2, h3, rfl⟩
  · have e1 : ((key.length : Int) == 0) = true := by rw [show key.length = 0 from h1]; rfl
    clear h1
    go_enter Tryd.func38, Tryd.ntmps38
    go_wp2_with fail
    refine (join_any _ _ _ _ (RdL.lit1r (e := 40) rfl HBB.out) (by have := HLB.out; simp [totL]; omega)).mono ?_
    rintro e w1 ⟨v1, rfl, hN1⟩
    have b1 := stepB (growB _) hN1.2
    have HO : Hid (Ow 5 w.heap.size v1 b w1) := Ow.mono (Ow.of_new hN1.one16) (by simp)
    clear hN1
    go_wp2
    go_ret2
    exact ⟨_, rfl, HO.out, Chg.of_below b1, HB.out.kept b1⟩
  · have h1' : key.length ≠ 0 := h1
    have h2' : key.length ≠ 32 := h2
    have e1 : ((key.length : Int) == 0) = false := by rw [beq_eq_false_iff_ne]; omega
    have e2 : ((key.length : Int) != 32) = true := by simp; omega
    clear h1 h2 h1' h2'
    go_enter Tryd.func38, Tryd.ntmps38
    go_wp2_with fail
    go_ret2
    exact ⟨_, rfl, Ow.nil _ _ _, Chg.refl _ _, HB.out⟩
  · have h1' : key.length = 32 := h1
    have h2' : n = 18446744073709551615 := h2
    have e1 : ((key.length : Int) == 0) = false := by rw [beq_eq_false_iff_ne]; omega
    have e2 : ((key.length : Int) != 32) = false := by simp; omega
    have e3 : ((n : Int) == 18446744073709551615) = true := by simp; omega
    clear h1 h2 h1' h2'
    go_enter Tryd.func38, Tryd.ntmps38
    go_wp2_with fail
    go_ret2
    exact ⟨_, rfl, Ow.nil _ _ _, Chg.refl _ _, HB.out⟩
  · have h1' : key.length = 32 := h1
    have h2' : n ≠ 18446744073709551615 := h2
    replace h3 : R2 = 0 := h3
    subst h3
    have e1 : ((key.length : Int) == 0) = false := by rw [beq_eq_false_iff_ne]; omega
    have e2 : ((key.length : Int) != 32) = false := by simp; omega
    have e3 : ((n : Int) == 18446744073709551615) = false := by simp; omega
    obtain ⟨m, hm⟩ : ∃ m : Nat, m = n + 1 := ⟨_, rfl⟩
    have HMm : Hid (m = n + 1) := hm
    have e4 : IntKind.u64.wrap ((n : Int) + 1) = (m : Int) := by rw [IntKind.wrap_u64]; have := HN.out; omega
    have e5 : ((n : Int) + 1) % 18446744073709551616 = (m : Int) := by have := HN.out; omega
    clear h1 h2 h1' h2' hm
    go_enter Tryd.func38, Tryd.ntmps38
    go_wp2_with fail
    refine (swith_any g pre.length ak aa key.length ck la ca n HN.out _ c0).mono ?_
    rintro e w1 ⟨vn, rfl, hvn, b1⟩
    have HV : Hid (Rd w1 vn (ncL n)) := hvn
    clear hvn c0
    go_wp2_with fail
    refine (HK.out _ _ b1 HV.out).mono ?_
    rintro e w2 ⟨v2, rfl, hN2⟩
    have b2 := stepB b1 hN2.2
    have hB2 := HB.out.kept b2
    have c1' : w2.cell? ⟨g, pre.length + 1, none⟩ = some (.int .u64 (n : Int)) := by rw [hB2.cell]; exact inB_get1 _ _ _ _
    have f1 : w2.frozen? ⟨g, pre.length + 1, none⟩ = false := hB2.free _
    have HO : Hid (Ow 5 w.heap.size v2 R1 w2) := Ow.mono (Ow.of_new hN2) b1.size
    have HB2 : Hid _ := hB2
    have HBw : Hid _ := b2
    clear hN2 hB2 b2 b1 c1 HV
    go_wp2_with fail
    go_ret2
    have hw : Wrote g w2 (w2.setCell ⟨g, pre.length + 1, none⟩ (.int .u64 (m : Int))) := Wrote.set _ _ _ _
    have hB3 := BlkAt.set HB2.out (pre.length + 1) (.int .u64 (m : Int))
    rw [inB_set] at hB3
    refine ⟨_, rfl, HO.out.chg HB2.out HBT.out (Chg.of_wrote hw), (Chg.of_below HBw.out).trans (Chg.of_wrote hw), ?_⟩
    rw [HMm.out] at hB3 ⊢
    exact hB3
  · have h1' : key.length = 32 := h1
    have h2' : n ≠ 18446744073709551615 := h2
    replace h3 : R2 ≠ 0 := h3
    have e1 : ((key.length : Int) == 0) = false := by rw [beq_eq_false_iff_ne]; omega
    have e2 : ((key.length : Int) != 32) = false := by simp; omega
    have e3 : ((n : Int) == 18446744073709551615) = false := by simp; omega
    have e6 : (R2 != 0) = true := by simpa using h3
    clear h1 h2 h1' h2' h3
    go_enter Tryd.func38, Tryd.ntmps38
    go_wp2_with fail
    refine (swith_any g pre.length ak aa key.length ck la ca n HN.out _ c0).mono ?_
    rintro e w1 ⟨vn, rfl, hvn, b1⟩
    have HV : Hid (Rd w1 vn (ncL n)) := hvn
    clear hvn c0
    go_wp2_with fail
    refine (HK.out _ _ b1 HV.out).mono ?_
    rintro e w2 ⟨v2, rfl, hN2⟩
    have b2 := stepB b1 hN2.2
    have HBw : Hid _ := b2
    clear hN2 b2 b1 c1 HV
    go_wp2_with fail
    go_ret2
    exact ⟨_, rfl, Ow.nil _ _ _, Chg.of_below HBw.out, HB.out.kept HBw.out⟩

set_option maxRecDepth 100000 in
set_option maxHeartbeats 2000000 in
theorem cseal_any (c : Cph) (hn : c.n < 18446744073709551616) (ad t : List UInt8) (hla : ad.length ≤ 3000000) (hlt : t.length ≤ 3000000) (g o : Nat) (bt : TypeId) (hbt : 5 ≠ bt) (pre post : List Value) (ho : pre.length = o) (ak : Option Addr) (ck : Nat) (va vt : Value) (w : World)
    (hB : BlkAt g bt (inB pre post (.slice ak c.key.length ck) c.n) w) (hk : Rd w (.slice ak c.key.length ck) c.key) (ha : Rd w va ad) (ht : Rd w vt t) (hP : PlT w) (hT : KpT w) :
    Calls Tryd.prog 29 #[.pointer (some ⟨g, o, none⟩), va, vt] w fun e w' => ∃ x, e = .returned (.tuple #[x, .int .i64 (seC c ad t).2.2]) ∧ Ow 5 w.heap.size x (seC c ad t).2.1 w' ∧ Chg (fun i => i = g) w w' ∧ BlkAt g bt (inB pre post (.slice ak c.key.length ck) (seC c ad t).1.n) w' := by
  rw [seC_tk]
  obtain ⟨aa, ca, rfl, -⟩ := id ha
  have HT : Hid _ := ctake_any 39 (enters16 rfl (by kernel_rfl) rfl) c hn t hlt (seA c.key (ncL c.n) ad t) g o bt hbt pre post ho ak aa ck ad.length ca vt w hB hk ht
    fun W vn bW hvn => stepSeal_any _ _ _ _ c.key (ncL c.n) ad t hla hlt W (hP.kept bW) (hT.kept bW) (hk.kept bW) hvn (ha.kept bW) (ht.kept bW)
  generalize tkC c t (seA c.key (ncL c.n) ad t) = T at HT ⊢
  obtain ⟨c', X, E⟩ := T
  clear hB hk ha ht hP hT hla hlt hn
  go_enter Tryd.func29, Tryd.ntmps29
  go_wp2_with fail
  refine Calls.mono HT.out ?_
  rintro e w1 ⟨x, rfl, h1, h2, h3⟩
  have H1 : Hid _ := h1
  have H2 : Hid _ := h2
  have H3 : Hid _ := h3
  clear h1 h2 h3
  go_wp2
  go_ret2
  exact ⟨_, rfl, H1.out, H2.out, H3.out⟩

set_option maxRecDepth 100000 in
set_option maxHeartbeats 2000000 in
theorem copen_any (c : Cph) (hn : c.n < 18446744073709551616) (ad t : List UInt8) (hla : ad.length ≤ 3000000) (hlt : t.length ≤ 3000000) (g o : Nat) (bt : TypeId) (hbt : 5 ≠ bt) (pre post : List Value) (ho : pre.length = o) (ak : Option Addr) (ck : Nat) (va vt : Value) (w : World)
    (hB : BlkAt g bt (inB pre post (.slice ak c.key.length ck) c.n) w) (hk : Rd w (.slice ak c.key.length ck) c.key) (ha : Rd w va ad) (ht : Rd w vt t) (hP : PlT w) (hT : KpT w) :
    Calls Tryd.prog 33 #[.pointer (some ⟨g, o, none⟩), va, vt] w fun e w' => ∃ x, e = .returned (.tuple #[x, .int .i64 (opC c ad t).2.2]) ∧ Ow 5 w.heap.size x (opC c ad t).2.1 w' ∧ Chg (fun i => i = g) w w' ∧ BlkAt g bt (inB pre post (.slice ak c.key.length ck) (opC c ad t).1.n) w' := by
  rw [opC_tk]
  obtain ⟨aa, ca, rfl, -⟩ := id ha
  have HT : Hid _ := ctake_any 43 (enters16 rfl (by kernel_rfl) rfl) c hn t hlt (opA c.key (ncL c.n) ad t) g o bt hbt pre post ho ak aa ck ad.length ca vt w hB hk ht
    fun W vn bW hvn => stepOpen_any _ _ _ _ c.key (ncL c.n) ad t hla hlt W (hP.kept bW) (hT.kept bW) (hk.kept bW) hvn (ha.kept bW) (ht.kept bW)
  generalize tkC c t (opA c.key (ncL c.n) ad t) = T at HT ⊢
  obtain ⟨c', X, E⟩ := T
  clear hB hk ha ht hP hT hla hlt hn
  go_enter Tryd.func33, Tryd.ntmps33
  go_wp2_with fail
  refine Calls.mono HT.out ?_
  rintro e w1 ⟨x, rfl, h1, h2, h3⟩
  have H1 : Hid _ := h1
  have H2 : Hid _ := h2
  have H3 : Hid _ := h3
  clear h1 h2 h3
  go_wp2
  go_ret2
  exact ⟨_, rfl, H1.out, H2.out, H3.out⟩
end Go.Proofs.YtliiofjcghdjoaaDoor
