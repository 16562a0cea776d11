/- What functions of the program, or of the reference, answer: contracts; several texts in one. -/
import Derived.Test.YtliiofjcghdjoaaDoorSst
import Derived.Test.YtliiofjcghdjoaaDoorSmt
import Derived.Test.YtliiofjcghdjoaaDoorWns
import Derived.Test.YtliiofjcghdjoaaDoorRfb
import Derived.Test.YtliiofjcghdjoaaDoorCut
import Derived.Deep.DeepCutAuto
import Derived.Test.YtliiofjcghdjoaaDoorSm16b

/- A session in memory, how old it is and how much was sent: contracts of package session, third part. -/
namespace Go.Proofs.YtliiofjcghdjoaaDoor
open Go.ChangeShapes Go.WideShapes Go.ChangeAt Go.RowKit
set_option linter.unusedSimpArgs false
set_option linter.unusedVariables false

/-- A session's cells: rules, the first cipher, the second one's key, the window, birth, how many were sealed. -/
def snC (r : Rl) (v1 v2 : Value) (n T a b born sent : Nat) : List Value := [.int .u64 (r.retry : Int), .int .u64 (r.rmax : Int), .int .i64 r.tries, .int .u64 (r.rekey : Int), .int .u64 (r.expire : Int), .int .u64 (r.rcount : Int), .int .u64 (r.ecount : Int), v1, .int .u64 (n : Int), v2, .int .u64 (T : Int), .int .u64 (a : Int), .int .u64 (b : Int), .int .u64 (born : Int), .int .u64 (sent : Int)]
theorem snC_no8 (r : Rl) (a1 a2 : Option Addr) (l1 c1 l2 c2 n T a b born sent : Nat) : No8 (snC r (.slice a1 l1 c1) (.slice a2 l2 c2) n T a b born sent) := No8.of_slices (by
  intro v hv x
  simp only [snC, List.mem_cons, List.not_mem_nil, or_false] at hv
  rcases hv with rfl | rfl | rfl | rfl | rfl | rfl | rfl | rfl | rfl | rfl | rfl | rfl | rfl | rfl | rfl <;> simp)
/-- A session in block g. -/
structure SnP (g : Nat) (r : Rl) (s : Ses) (w : World) : Prop where
  ok : SesW s
  mem : ∃ a1 c1 a2 c2 a b, Wn s.came a b ∧ tpN s.came < 18446744073709551616 ∧ BlkAt g 80 (snC r (.slice a1 s.snd.key.length c1) (.slice a2 s.rcv.key.length c2) s.snd.n (tpN s.came) a b s.born s.sent) w ∧ Rd w (.slice a1 s.snd.key.length c1) s.snd.key ∧ Rd w (.slice a2 s.rcv.key.length c2) s.rcv.key
theorem SnP.kept {g : Nat} {r : Rl} {s : Ses} {w w' : World} (h : SnP g r s w) (hb : Below w.heap.size w w') : SnP g r s w' := by
  obtain ⟨a1, c1, a2, c2, a, b, h1, h2, h3, h4, h5⟩ := h.mem
  exact ⟨h.ok, a1, c1, a2, c2, a, b, h1, h2, h3.kept hb, h4.kept hb, h5.kept hb⟩
theorem SnP.lt {g : Nat} {r : Rl} {s : Ses} {w : World} (h : SnP g r s w) : g < w.heap.size := by
  obtain ⟨a1, c1, a2, c2, a, b, h1, h2, h3, h4, h5⟩ := h.mem
  exact h3.lt
/-- What its rules and numbers are, in any later world. -/
theorem SnP.cells {g : Nat} {r : Rl} {s : Ses} {w : World} (h : SnP g r s w) (W : World) (hW : Below w.heap.size w W) : W.cell? ⟨g, 3, none⟩ = some (.int .u64 (r.rekey : Int)) ∧ W.cell? ⟨g, 4, none⟩ = some (.int .u64 (r.expire : Int)) ∧ W.cell? ⟨g, 5, none⟩ = some (.int .u64 (r.rcount : Int)) ∧ W.cell? ⟨g, 6, none⟩ = some (.int .u64 (r.ecount : Int)) ∧ W.cell? ⟨g, 8, none⟩ = some (.int .u64 (s.snd.n : Int)) ∧ W.cell? ⟨g, 13, none⟩ = some (.int .u64 (s.born : Int)) ∧ W.cell? ⟨g, 14, none⟩ = some (.int .u64 (s.sent : Int)) := by
  obtain ⟨a1, c1, a2, c2, a, b, h1, h2, h3, h4, h5⟩ := h.mem
  have h6 := h3.kept hW
  exact ⟨h6.cell 3, h6.cell 4, h6.cell 5, h6.cell 6, h6.cell 8, h6.cell 13, h6.cell 14⟩

set_option maxHeartbeats 1000000 in
theorem csent_any (g : Nat) (r : Rl) (s : Ses) (w : World) (h : SnP g r s w) :
    Calls Tryd.prog 21 #[.pointer (some ⟨g, 0, none⟩)] w fun e w' => e = .returned (.int .u64 (s.sent : Int)) ∧ w' = w := by
  obtain ⟨-, -, -, -, -, -, c⟩ := h.cells w (Below.refl _ _)
  clear h
  go_enter Tryd.func21, Tryd.ntmps21
  go_wp2
  go_ret
  exact ⟨rfl, rfl⟩

set_option maxRecDepth 100000 in
set_option maxHeartbeats 4000000 in
theorem cold_any (g : Nat) (r : Rl) (s : Ses) (now : Nat) (hn : now < 18446744073709551616) (w : World) (h : SnP g r s w) :
    Calls Tryd.prog 31 #[.pointer (some ⟨g, 0, none⟩), .int .u64 (now : Int)] w fun e w' => e = .returned (.bool (decide (r.expire ≤ snN s.born now))) ∧ Below w.heap.size w w' := by
  have HN : Hid (now < 18446744073709551616 ∧ s.born < 18446744073709551616) := ⟨hn, h.ok.born⟩
  obtain ⟨x, hx⟩ : ∃ x, x = snN s.born now := ⟨_, rfl⟩
  obtain ⟨y, hy⟩ : ∃ y, y = r.expire := ⟨_, rfl⟩
  obtain ⟨bo, hbo⟩ : ∃ y, y = s.born := ⟨_, rfl⟩
  have HX : Hid (x = snN bo now) := (by rw [hbo]; exact hx : x = snN bo now)
  rw [← hx, ← hy]
  rw [← hbo] at HN
  have HC1 : Hid (∀ W, Below w.drew.heap.size w.drew W → W.cell? ⟨g, 13, none⟩ = some (.int .u64 (bo : Int)) ∧ W.cell? ⟨g, 4, none⟩ = some (.int .u64 (y : Int))) := fun W hW => by
    obtain ⟨c3, c4, c5, c6, c8, c13, c14⟩ := h.cells W (stepB (Below.refl _ w).drew hW)
    rw [hbo, hy]
    exact ⟨c13, c4⟩
  obtain ⟨G, hG⟩ : ∃ G, G = decide (y ≤ x) := ⟨_, rfl⟩
  rw [← hG]
  have dI : decide ((y : Int) ≤ (x : Int)) = G := by rw [hG]; exact decide_eq_decide.2 (by omega)
  have dN : decide (y ≤ x) = G := hG.symm
  clear hx hy hbo hG hn h
  go_enter Tryd.func31, Tryd.ntmps31
  go_wp2_with fail
  refine wpG_begin (by kernel_rfl) ?_
  refine gU_ 0 rfl ⟨_, by intro W hW; go_simp <;> with_reducible rfl, ?_⟩
  try simp only [Act.put, pA_, pB_, pC_]
  refine gU_ 1 rfl ⟨_, by intro W hW; go_simp <;> with_reducible rfl, ?_⟩
  try simp only [Act.put, pA_, pB_, pC_]
  refine gU_ 2 rfl ⟨_, by intro W hW; go_simp <;> with_reducible rfl, ?_⟩
  try simp only [Act.put, pA_, pB_, pC_]
  refine gU_ 3 rfl ⟨_, by intro W hW; have cW := (HC1.out W hW).1; go_simp <;> with_reducible rfl, ?_⟩
  try simp only [Act.put, pA_, pB_, pC_]
  refine gU_ 4 rfl ⟨_, by intro W hW; go_simp <;> with_reducible rfl, ?_⟩
  try simp only [Act.put, pA_, pB_, pC_]
  refine gU_ 6 rfl ⟨_, by intro W hW; go_simp <;> with_reducible rfl, ?_⟩
  try simp only [Act.put, pA_, pB_, pC_]
  refine gU_ 7 rfl ⟨_, by intro W hW; go_simp <;> with_reducible rfl, ?_⟩
  try simp only [Act.put, pA_, pB_, pC_]
  refine gU_ 8 rfl ⟨_, by intro W hW; go_simp <;> with_reducible rfl, ?_⟩
  try simp only [Act.put, pA_, pB_, pC_]
  refine gU_ 9 rfl ⟨_, by intro W hW; go_simp <;> with_reducible rfl, ?_⟩
  try simp only [Act.put, pA_, pB_, pC_]
  refine gU_ 10 rfl ⟨_, by intro W hW; have cW := (HC1.out W hW).2; go_simp <;> with_reducible rfl, ?_⟩
  try simp only [Act.put, pA_, pB_, pC_]
  refine gD_ 5 fun K hK => ?_
  go_simp
  refine (csince_any bo now HN.out.2 HN.out.1 _).mono ?_
  rintro e wa ⟨rfl, rfl⟩
  rw [← HX.out]
  refine hK.out _ _ (Below.refl _ _) ?_
  clear hK K
  try simp only [Act.put, pA_, pB_, pC_]
  refine gU_ 11 rfl ⟨_, by intro W hW; go_simp <;> with_reducible rfl, ?_⟩
  try simp only [Act.put, pA_, pB_, pC_]
  refine gU_ 12 rfl ⟨_, by intro W hW; go_simp <;> with_reducible rfl, ?_⟩
  try simp only [Act.put, pA_, pB_, pC_]
  refine wpG_done (by kernel_rfl) ?_
  go_wp2
  go_ret
  exact ⟨rfl, (Below.refl _ w).drew⟩

set_option maxRecDepth 100000 in
set_option maxHeartbeats 4000000 in
theorem cexpired_any (g : Nat) (r : Rl) (s : Ses) (now : Nat) (hn : now < 18446744073709551616) (w : World) (h : SnP g r s w) :
    Calls Tryd.prog 24 #[.pointer (some ⟨g, 0, none⟩), .int .u64 (now : Int)] w fun e w' => e = .returned (.bool (exB r s now)) ∧ Below w.heap.size w w' := by
  have HD : Hid (exB r s now = (decide (r.expire ≤ snN s.born now) || decide (r.ecount ≤ s.sent))) := rfl
  obtain ⟨G, hG⟩ : ∃ G, G = exB r s now := ⟨_, rfl⟩
  rw [← hG] at HD ⊢
  have HO : Hid (∀ W, Below w.drew.heap.size w.drew W → Calls Tryd.prog 31 #[.pointer (some ⟨g, 0, none⟩), .int .u64 (now : Int)] W fun e w' => e = .returned (.bool (decide (r.expire ≤ snN s.born now))) ∧ Below W.heap.size W w') := fun W hW => cold_any g r s now hn W (h.kept (stepB (Below.refl _ w).drew hW))
  obtain ⟨q, hq⟩ : ∃ q, q = decide (r.expire ≤ snN s.born now) := ⟨_, rfl⟩
  rw [← hq] at HD HO
  obtain ⟨sn, hsn⟩ : ∃ y, y = s.sent := ⟨_, rfl⟩
  obtain ⟨ct, hct⟩ : ∃ y, y = r.ecount := ⟨_, rfl⟩
  rw [← hsn, ← hct] at HD
  have HC1 : Hid (∀ W, Below w.drew.heap.size w.drew W → W.cell? ⟨g, 14, none⟩ = some (.int .u64 (sn : Int)) ∧ W.cell? ⟨g, 6, none⟩ = some (.int .u64 (ct : Int))) := fun W hW => by
    obtain ⟨c3, c4, c5, c6, c8, c13, c14⟩ := h.cells W (stepB (Below.refl _ w).drew hW)
    rw [hsn, hct]
    exact ⟨c14, c6⟩
  clear hG hq hsn hct h hn
  cases q
  · have eI : decide ((ct : Int) ≤ (sn : Int)) = G := by rw [HD.out, Bool.false_or]; exact decide_eq_decide.2 (by omega)
    have eN : decide (ct ≤ sn) = G := by rw [HD.out]; rfl
    clear HD
    go_enter Tryd.func24, Tryd.ntmps24
    go_wp2_with fail
    refine wpG_begin (by kernel_rfl) ?_
    refine gU_ 0 rfl ⟨_, by intro W hW; go_simp <;> with_reducible rfl, ?_⟩
    try simp only [Act.put, pA_, pB_, pC_]
    refine gU_ 1 rfl ⟨_, by intro W hW; go_simp <;> with_reducible rfl, ?_⟩
    try simp only [Act.put, pA_, pB_, pC_]
    refine gU_ 2 rfl ⟨_, by intro W hW; go_simp <;> with_reducible rfl, ?_⟩
    try simp only [Act.put, pA_, pB_, pC_]
    refine gU_ 3 rfl ⟨_, by intro W hW; go_simp <;> with_reducible rfl, ?_⟩
    try simp only [Act.put, pA_, pB_, pC_]
    refine gU_ 4 rfl ⟨_, by intro W hW; go_simp <;> with_reducible rfl, ?_⟩
    try simp only [Act.put, pA_, pB_, pC_]
    refine gD_ 5 fun K hK => ?_
    go_simp
    refine (HO.out _ (Below.refl _ _)).mono ?_
    rintro e wa ⟨rfl, ba⟩
    refine hK.out _ _ ba ?_
    clear hK K
    try simp only [Act.put, pA_, pB_, pC_]
    refine gU_ 6 rfl ⟨_, by intro W hW; go_simp <;> with_reducible rfl, ?_⟩
    try simp only [Act.put, pA_, pB_, pC_]
    refine gU_ 7 rfl ⟨_, by intro W hW; go_simp <;> with_reducible rfl, ?_⟩
    try simp only [Act.put, pA_, pB_, pC_]
    refine gU_ 8 rfl ⟨_, by intro W hW; go_simp <;> with_reducible rfl, ?_⟩
    try simp only [Act.put, pA_, pB_, pC_]
    refine gU_ 9 rfl ⟨_, by intro W hW; go_simp <;> with_reducible rfl, ?_⟩
    try simp only [Act.put, pA_, pB_, pC_]
    refine gU_ 10 rfl ⟨_, by intro W hW; go_simp <;> with_reducible rfl, ?_⟩
    try simp only [Act.put, pA_, pB_, pC_]
    refine gU_ 11 rfl ⟨_, by intro W hW; have cW := (HC1.out W (stepB ba hW)).1; go_simp <;> with_reducible rfl, ?_⟩
    try simp only [Act.put, pA_, pB_, pC_]
    refine gU_ 12 rfl ⟨_, by intro W hW; go_simp <;> with_reducible rfl, ?_⟩
    try simp only [Act.put, pA_, pB_, pC_]
    refine gU_ 13 rfl ⟨_, by intro W hW; go_simp <;> with_reducible rfl, ?_⟩
    try simp only [Act.put, pA_, pB_, pC_]
    refine gU_ 14 rfl ⟨_, by intro W hW; go_simp <;> with_reducible rfl, ?_⟩
    try simp only [Act.put, pA_, pB_, pC_]
    refine gU_ 15 rfl ⟨_, by intro W hW; go_simp <;> with_reducible rfl, ?_⟩
    try simp only [Act.put, pA_, pB_, pC_]
    refine gU_ 16 rfl ⟨_, by intro W hW; have cW := (HC1.out W (stepB ba hW)).2; go_simp <;> with_reducible rfl, ?_⟩
    try simp only [Act.put, pA_, pB_, pC_]
    refine gU_ 17 rfl ⟨_, by intro W hW; go_simp <;> with_reducible rfl, ?_⟩
    try simp only [Act.put, pA_, pB_, pC_]
    refine gU_ 18 rfl ⟨_, by intro W hW; go_simp <;> with_reducible rfl, ?_⟩
    try simp only [Act.put, pA_, pB_, pC_]
    refine gU_ 19 rfl ⟨_, by intro W hW; go_simp <;> with_reducible rfl, ?_⟩
    try simp only [Act.put, pA_, pB_, pC_]
    refine wpG_done (by kernel_rfl) ?_
    have HBa : Hid (Below w.heap.size w wa) := stepB (Below.refl _ w).drew ba
    clear ba HC1 HO
    go_wp2
    go_ret
    exact ⟨rfl, HBa.out⟩
  · have hG : G = true := HD.out
    subst hG
    clear HD
    go_enter Tryd.func24, Tryd.ntmps24
    go_wp2_with fail
    refine wpG_begin (by kernel_rfl) ?_
    refine gU_ 0 rfl ⟨_, by intro W hW; go_simp <;> with_reducible rfl, ?_⟩
    try simp only [Act.put, pA_, pB_, pC_]
    refine gU_ 1 rfl ⟨_, by intro W hW; go_simp <;> with_reducible rfl, ?_⟩
    try simp only [Act.put, pA_, pB_, pC_]
    refine gU_ 2 rfl ⟨_, by intro W hW; go_simp <;> with_reducible rfl, ?_⟩
    try simp only [Act.put, pA_, pB_, pC_]
    refine gU_ 3 rfl ⟨_, by intro W hW; go_simp <;> with_reducible rfl, ?_⟩
    try simp only [Act.put, pA_, pB_, pC_]
    refine gU_ 4 rfl ⟨_, by intro W hW; go_simp <;> with_reducible rfl, ?_⟩
    try simp only [Act.put, pA_, pB_, pC_]
    refine gD_ 5 fun K hK => ?_
    go_simp
    refine (HO.out _ (Below.refl _ _)).mono ?_
    rintro e wa ⟨rfl, ba⟩
    refine hK.out _ _ ba ?_
    clear hK K
    try simp only [Act.put, pA_, pB_, pC_]
    refine gU_ 6 rfl ⟨_, by intro W hW; go_simp <;> with_reducible rfl, ?_⟩
    try simp only [Act.put, pA_, pB_, pC_]
    refine gU_ 7 rfl ⟨_, by intro W hW; go_simp <;> with_reducible rfl, ?_⟩
    try simp only [Act.put, pA_, pB_, pC_]
    refine wpG_skip (i := 8) (nA rfl) (by kernel_rfl) (by kernel_rfl) (by kernel_rfl) (by rfl) ?_
    try simp only [Act.put, pA_, pB_, pC_]
    refine wpG_skip (i := 9) (nA rfl) (by kernel_rfl) (by kernel_rfl) (by kernel_rfl) (by rfl) ?_
    try simp only [Act.put, pA_, pB_, pC_]
    refine wpG_skip (i := 10) (nA rfl) (by kernel_rfl) (by kernel_rfl) (by kernel_rfl) (by rfl) ?_
    try simp only [Act.put, pA_, pB_, pC_]
    refine wpG_skip (i := 11) (nA rfl) (by kernel_rfl) (by kernel_rfl) (by kernel_rfl) (by rfl) ?_
    try simp only [Act.put, pA_, pB_, pC_]
    refine wpG_skip (i := 12) (nA rfl) (by kernel_rfl) (by kernel_rfl) (by kernel_rfl) (by rfl) ?_
    try simp only [Act.put, pA_, pB_, pC_]
    refine wpG_skip (i := 13) (nA rfl) (by kernel_rfl) (by kernel_rfl) (by kernel_rfl) (by rfl) ?_
    try simp only [Act.put, pA_, pB_, pC_]
    refine wpG_skip (i := 14) (nA rfl) (by kernel_rfl) (by kernel_rfl) (by kernel_rfl) (by rfl) ?_
    try simp only [Act.put, pA_, pB_, pC_]
    refine wpG_skip (i := 15) (nA rfl) (by kernel_rfl) (by kernel_rfl) (by kernel_rfl) (by rfl) ?_
    try simp only [Act.put, pA_, pB_, pC_]
    refine wpG_skip (i := 16) (nA rfl) (by kernel_rfl) (by kernel_rfl) (by kernel_rfl) (by rfl) ?_
    try simp only [Act.put, pA_, pB_, pC_]
    refine wpG_skip (i := 17) (nA rfl) (by kernel_rfl) (by kernel_rfl) (by kernel_rfl) (by rfl) ?_
    try simp only [Act.put, pA_, pB_, pC_]
    refine gU_ 18 rfl ⟨_, by intro W hW; go_simp <;> with_reducible rfl, ?_⟩
    try simp only [Act.put, pA_, pB_, pC_]
    refine gU_ 19 rfl ⟨_, by intro W hW; go_simp <;> with_reducible rfl, ?_⟩
    try simp only [Act.put, pA_, pB_, pC_]
    refine wpG_done (by kernel_rfl) ?_
    have HBa : Hid (Below w.heap.size w wa) := stepB (Below.refl _ w).drew ba
    clear ba HC1 HO
    go_wp2
    go_ret
    exact ⟨rfl, HBa.out⟩

set_option maxRecDepth 100000 in
set_option maxHeartbeats 4000000 in
theorem crekey_any (g : Nat) (r : Rl) (s : Ses) (now : Nat) (hn : now < 18446744073709551616) (w : World) (h : SnP g r s w) :
    Calls Tryd.prog 22 #[.pointer (some ⟨g, 0, none⟩), .int .u64 (now : Int)] w fun e w' => e = .returned (.bool (rkB r s now)) ∧ Below w.heap.size w w' := by
  have HD : Hid (rkB r s now = (decide (r.rekey ≤ snN s.born now) || decide (r.rcount ≤ s.sent))) := rfl
  obtain ⟨G, hG⟩ : ∃ G, G = rkB r s now := ⟨_, rfl⟩
  rw [← hG] at HD ⊢
  have HN : Hid (now < 18446744073709551616 ∧ s.born < 18446744073709551616) := ⟨hn, h.ok.born⟩
  obtain ⟨x, hx⟩ : ∃ x, x = snN s.born now := ⟨_, rfl⟩
  obtain ⟨y, hy⟩ : ∃ y, y = r.rekey := ⟨_, rfl⟩
  obtain ⟨bo, hbo⟩ : ∃ y, y = s.born := ⟨_, rfl⟩
  obtain ⟨sn, hsn⟩ : ∃ y, y = s.sent := ⟨_, rfl⟩
  obtain ⟨ct, hct⟩ : ∃ y, y = r.rcount := ⟨_, rfl⟩
  have HX : Hid (x = snN bo now) := (by rw [hbo]; exact hx : x = snN bo now)
  rw [← hx, ← hy, ← hsn, ← hct] at HD
  rw [← hbo] at HN
  have HC1 : Hid (∀ W, Below w.drew.heap.size w.drew W → W.cell? ⟨g, 13, none⟩ = some (.int .u64 (bo : Int)) ∧ W.cell? ⟨g, 3, none⟩ = some (.int .u64 (y : Int)) ∧ W.cell? ⟨g, 14, none⟩ = some (.int .u64 (sn : Int)) ∧ W.cell? ⟨g, 5, none⟩ = some (.int .u64 (ct : Int))) := fun W hW => by
    obtain ⟨c3, c4, c5, c6, c8, c13, c14⟩ := h.cells W (stepB (Below.refl _ w).drew hW)
    rw [hbo, hy, hsn, hct]
    exact ⟨c13, c3, c14, c5⟩
  clear hx hy hbo hG hn h hsn hct
  by_cases h : y ≤ x
  · have dI : decide ((y : Int) ≤ (x : Int)) = true := decide_eq_true (by omega)
    have dN : decide (y ≤ x) = true := decide_eq_true h
    have hG : G = true := by rw [HD.out, dN]; rfl
    subst hG
    clear HD
    go_enter Tryd.func22, Tryd.ntmps22
    go_wp2_with fail
    refine wpG_begin (by kernel_rfl) ?_
    refine gU_ 0 rfl ⟨_, by intro W hW; go_simp <;> with_reducible rfl, ?_⟩
    try simp only [Act.put, pA_, pB_, pC_]
    refine gU_ 1 rfl ⟨_, by intro W hW; go_simp <;> with_reducible rfl, ?_⟩
    try simp only [Act.put, pA_, pB_, pC_]
    refine gU_ 2 rfl ⟨_, by intro W hW; go_simp <;> with_reducible rfl, ?_⟩
    try simp only [Act.put, pA_, pB_, pC_]
    refine gU_ 3 rfl ⟨_, by intro W hW; go_simp <;> with_reducible rfl, ?_⟩
    try simp only [Act.put, pA_, pB_, pC_]
    refine gU_ 4 rfl ⟨_, by intro W hW; go_simp <;> with_reducible rfl, ?_⟩
    try simp only [Act.put, pA_, pB_, pC_]
    refine gU_ 5 rfl ⟨_, by intro W hW; go_simp <;> with_reducible rfl, ?_⟩
    try simp only [Act.put, pA_, pB_, pC_]
    refine gU_ 6 rfl ⟨_, by intro W hW; have cW := (HC1.out W hW).1; go_simp <;> with_reducible rfl, ?_⟩
    try simp only [Act.put, pA_, pB_, pC_]
    refine gU_ 7 rfl ⟨_, by intro W hW; go_simp <;> with_reducible rfl, ?_⟩
    try simp only [Act.put, pA_, pB_, pC_]
    refine gU_ 9 rfl ⟨_, by intro W hW; go_simp <;> with_reducible rfl, ?_⟩
    try simp only [Act.put, pA_, pB_, pC_]
    refine gU_ 10 rfl ⟨_, by intro W hW; go_simp <;> with_reducible rfl, ?_⟩
    try simp only [Act.put, pA_, pB_, pC_]
    refine gU_ 11 rfl ⟨_, by intro W hW; go_simp <;> with_reducible rfl, ?_⟩
    try simp only [Act.put, pA_, pB_, pC_]
    refine gU_ 12 rfl ⟨_, by intro W hW; go_simp <;> with_reducible rfl, ?_⟩
    try simp only [Act.put, pA_, pB_, pC_]
    refine gU_ 13 rfl ⟨_, by intro W hW; have cW := (HC1.out W hW).2.1; go_simp <;> with_reducible rfl, ?_⟩
    try simp only [Act.put, pA_, pB_, pC_]
    refine gD_ 8 fun K hK => ?_
    go_simp
    refine (csince_any bo now HN.out.2 HN.out.1 _).mono ?_
    rintro e wa ⟨rfl, rfl⟩
    rw [← HX.out]
    refine hK.out _ _ (Below.refl _ _) ?_
    clear hK K
    try simp only [Act.put, pA_, pB_, pC_]
    refine gU_ 14 rfl ⟨_, by intro W hW; go_simp <;> with_reducible rfl, ?_⟩
    try simp only [Act.put, pA_, pB_, pC_]
    refine gU_ 15 rfl ⟨_, by intro W hW; go_simp <;> with_reducible rfl, ?_⟩
    try simp only [Act.put, pA_, pB_, pC_]
    refine gU_ 16 rfl ⟨_, by intro W hW; go_simp <;> with_reducible rfl, ?_⟩
    try simp only [Act.put, pA_, pB_, pC_]
    refine wpG_skip (i := 17) (nA rfl) (by kernel_rfl) (by kernel_rfl) (by kernel_rfl) (by rfl) ?_
    try simp only [Act.put, pA_, pB_, pC_]
    refine wpG_skip (i := 18) (nA rfl) (by kernel_rfl) (by kernel_rfl) (by kernel_rfl) (by rfl) ?_
    try simp only [Act.put, pA_, pB_, pC_]
    refine wpG_skip (i := 19) (nA rfl) (by kernel_rfl) (by kernel_rfl) (by kernel_rfl) (by rfl) ?_
    try simp only [Act.put, pA_, pB_, pC_]
    refine wpG_skip (i := 20) (nA rfl) (by kernel_rfl) (by kernel_rfl) (by kernel_rfl) (by rfl) ?_
    try simp only [Act.put, pA_, pB_, pC_]
    refine wpG_skip (i := 21) (nA rfl) (by kernel_rfl) (by kernel_rfl) (by kernel_rfl) (by rfl) ?_
    try simp only [Act.put, pA_, pB_, pC_]
    refine wpG_skip (i := 22) (nA rfl) (by kernel_rfl) (by kernel_rfl) (by kernel_rfl) (by rfl) ?_
    try simp only [Act.put, pA_, pB_, pC_]
    refine wpG_skip (i := 23) (nA rfl) (by kernel_rfl) (by kernel_rfl) (by kernel_rfl) (by rfl) ?_
    try simp only [Act.put, pA_, pB_, pC_]
    refine wpG_skip (i := 24) (nA rfl) (by kernel_rfl) (by kernel_rfl) (by kernel_rfl) (by rfl) ?_
    try simp only [Act.put, pA_, pB_, pC_]
    refine wpG_skip (i := 25) (nA rfl) (by kernel_rfl) (by kernel_rfl) (by kernel_rfl) (by rfl) ?_
    try simp only [Act.put, pA_, pB_, pC_]
    refine wpG_skip (i := 26) (nA rfl) (by kernel_rfl) (by kernel_rfl) (by kernel_rfl) (by rfl) ?_
    try simp only [Act.put, pA_, pB_, pC_]
    refine gU_ 27 rfl ⟨_, by intro W hW; go_simp <;> with_reducible rfl, ?_⟩
    try simp only [Act.put, pA_, pB_, pC_]
    refine gU_ 28 rfl ⟨_, by intro W hW; go_simp <;> with_reducible rfl, ?_⟩
    try simp only [Act.put, pA_, pB_, pC_]
    refine wpG_done (by kernel_rfl) ?_
    go_wp2
    go_ret
    exact ⟨rfl, (Below.refl _ w).drew⟩
  · have dI : decide ((y : Int) ≤ (x : Int)) = false := decide_eq_false (by omega)
    have dN : decide (y ≤ x) = false := decide_eq_false h
    have eI : decide ((ct : Int) ≤ (sn : Int)) = G := by rw [HD.out, dN, Bool.false_or]; exact decide_eq_decide.2 (by omega)
    have eN : decide (ct ≤ sn) = G := by rw [HD.out, dN]; rfl
    clear HD
    go_enter Tryd.func22, Tryd.ntmps22
    go_wp2_with fail
    refine wpG_begin (by kernel_rfl) ?_
    refine gU_ 0 rfl ⟨_, by intro W hW; go_simp <;> with_reducible rfl, ?_⟩
    try simp only [Act.put, pA_, pB_, pC_]
    refine gU_ 1 rfl ⟨_, by intro W hW; go_simp <;> with_reducible rfl, ?_⟩
    try simp only [Act.put, pA_, pB_, pC_]
    refine gU_ 2 rfl ⟨_, by intro W hW; go_simp <;> with_reducible rfl, ?_⟩
    try simp only [Act.put, pA_, pB_, pC_]
    refine gU_ 3 rfl ⟨_, by intro W hW; go_simp <;> with_reducible rfl, ?_⟩
    try simp only [Act.put, pA_, pB_, pC_]
    refine gU_ 4 rfl ⟨_, by intro W hW; go_simp <;> with_reducible rfl, ?_⟩
    try simp only [Act.put, pA_, pB_, pC_]
    refine gU_ 5 rfl ⟨_, by intro W hW; go_simp <;> with_reducible rfl, ?_⟩
    try simp only [Act.put, pA_, pB_, pC_]
    refine gU_ 6 rfl ⟨_, by intro W hW; have cW := (HC1.out W hW).1; go_simp <;> with_reducible rfl, ?_⟩
    try simp only [Act.put, pA_, pB_, pC_]
    refine gU_ 7 rfl ⟨_, by intro W hW; go_simp <;> with_reducible rfl, ?_⟩
    try simp only [Act.put, pA_, pB_, pC_]
    refine gU_ 9 rfl ⟨_, by intro W hW; go_simp <;> with_reducible rfl, ?_⟩
    try simp only [Act.put, pA_, pB_, pC_]
    refine gU_ 10 rfl ⟨_, by intro W hW; go_simp <;> with_reducible rfl, ?_⟩
    try simp only [Act.put, pA_, pB_, pC_]
    refine gU_ 11 rfl ⟨_, by intro W hW; go_simp <;> with_reducible rfl, ?_⟩
    try simp only [Act.put, pA_, pB_, pC_]
    refine gU_ 12 rfl ⟨_, by intro W hW; go_simp <;> with_reducible rfl, ?_⟩
    try simp only [Act.put, pA_, pB_, pC_]
    refine gU_ 13 rfl ⟨_, by intro W hW; have cW := (HC1.out W hW).2.1; go_simp <;> with_reducible rfl, ?_⟩
    try simp only [Act.put, pA_, pB_, pC_]
    refine gD_ 8 fun K hK => ?_
    go_simp
    refine (csince_any bo now HN.out.2 HN.out.1 _).mono ?_
    rintro e wa ⟨rfl, rfl⟩
    rw [← HX.out]
    refine hK.out _ _ (Below.refl _ _) ?_
    clear hK K
    try simp only [Act.put, pA_, pB_, pC_]
    refine gU_ 14 rfl ⟨_, by intro W hW; go_simp <;> with_reducible rfl, ?_⟩
    try simp only [Act.put, pA_, pB_, pC_]
    refine gU_ 15 rfl ⟨_, by intro W hW; go_simp <;> with_reducible rfl, ?_⟩
    try simp only [Act.put, pA_, pB_, pC_]
    refine gU_ 16 rfl ⟨_, by intro W hW; go_simp <;> with_reducible rfl, ?_⟩
    try simp only [Act.put, pA_, pB_, pC_]
    refine gU_ 17 rfl ⟨_, by intro W hW; go_simp <;> with_reducible rfl, ?_⟩
    try simp only [Act.put, pA_, pB_, pC_]
    refine gU_ 18 rfl ⟨_, by intro W hW; go_simp <;> with_reducible rfl, ?_⟩
    try simp only [Act.put, pA_, pB_, pC_]
    refine gU_ 19 rfl ⟨_, by intro W hW; go_simp <;> with_reducible rfl, ?_⟩
    try simp only [Act.put, pA_, pB_, pC_]
    refine gU_ 20 rfl ⟨_, by intro W hW; have cW := (HC1.out W hW).2.2.1; go_simp <;> with_reducible rfl, ?_⟩
    try simp only [Act.put, pA_, pB_, pC_]
    refine gU_ 21 rfl ⟨_, by intro W hW; go_simp <;> with_reducible rfl, ?_⟩
    try simp only [Act.put, pA_, pB_, pC_]
    refine gU_ 22 rfl ⟨_, by intro W hW; go_simp <;> with_reducible rfl, ?_⟩
    try simp only [Act.put, pA_, pB_, pC_]
    refine gU_ 23 rfl ⟨_, by intro W hW; go_simp <;> with_reducible rfl, ?_⟩
    try simp only [Act.put, pA_, pB_, pC_]
    refine gU_ 24 rfl ⟨_, by intro W hW; go_simp <;> with_reducible rfl, ?_⟩
    try simp only [Act.put, pA_, pB_, pC_]
    refine gU_ 25 rfl ⟨_, by intro W hW; have cW := (HC1.out W hW).2.2.2; go_simp <;> with_reducible rfl, ?_⟩
    try simp only [Act.put, pA_, pB_, pC_]
    refine gU_ 26 rfl ⟨_, by intro W hW; go_simp <;> with_reducible rfl, ?_⟩
    try simp only [Act.put, pA_, pB_, pC_]
    refine gU_ 27 rfl ⟨_, by intro W hW; go_simp <;> with_reducible rfl, ?_⟩
    try simp only [Act.put, pA_, pB_, pC_]
    refine gU_ 28 rfl ⟨_, by intro W hW; go_simp <;> with_reducible rfl, ?_⟩
    try simp only [Act.put, pA_, pB_, pC_]
    refine wpG_done (by kernel_rfl) ?_
    go_wp2
    go_ret
    exact ⟨rfl, (Below.refl _ w).drew⟩
end Go.Proofs.YtliiofjcghdjoaaDoor

/- A session that begins: contracts of package session, fourth part. -/
namespace Go.Proofs.YtliiofjcghdjoaaDoor
open Go.ChangeShapes Go.WideShapes Go.ChangeAt Go.RowKit
set_option linter.unusedSimpArgs false
set_option linter.unusedVariables false

theorem build_by0 (w : World) : (Instr.buildSlice 40 0 #[]).run Tryd.prog w = .ok (.slice (some ⟨w.heap.size, 0, none⟩) 0 0) (w.alloc (.cells #[] 5)) := by kernel_rfl
/-- Bytes, none of them. -/
theorem wpList_build0b {P : Program} {ops : Array Oper} {rest : List Oper} {op : Oper} {a : Act} {w : World} {Q : Exit → Act → World → Prop} (hgd : op.guard = none) (t : TypeId) (ho : op.op = .buildSlice t 0 #[]) (e : TypeId)
    (hrun : (Instr.buildSlice t 0 #[]).run P w = .ok (.slice (some ⟨w.heap.size, 0, none⟩) 0 0) (w.alloc (.cells #[] e)))
    (h : ∀ w', Own e w [(.slice (some ⟨w.heap.size, 0, none⟩) 0 0, [])] w' → wpList P ops Q rest (a.put op.dst (.slice (some ⟨w.heap.size, 0, none⟩) 0 0)) w') : wpList P ops Q (op :: rest) a w := by
  refine wpList_plain hgd fun K hK => ?_
  unfold Oper.wp execOp
  simp only [ho, List.map_toArray, List.map_nil, Sem.run_bind, hrun, Result.andThen_ok, Sem.run_pure]
  refine hK _ _ (h _ ?_)
  refine (Own.start e w).new ⟨⟨rfl, .inr ⟨w.heap.size, 0, #[], rfl, Nat.le_refl _, ?_, Nat.le_refl _, by simp [maxLen], rfl, rfl⟩⟩, growB _⟩
  show (w.heap.push _)[w.heap.size]? = _
  simp
theorem Own.first22 {e : TypeId} {w0 w : World} {v : Value} {l : List UInt8} {L : List (Value × List UInt8)} (h : Own e w0 ((v, l) :: L) w) : New e w0 v l w := ⟨h.rows _ (List.mem_cons_self ..), h.below⟩

set_option maxRecDepth 100000 in
set_option maxHeartbeats 4000000 in
theorem bclone_any (v : Value) (l : List UInt8) (hl : l.length ≤ 1000000) (w : World) (hr : Rd w v l) :
    Calls Tryd.prog 28 #[v] w fun e w' => ∃ x, e = .returned x ∧ New 5 w x l w' := by
  have HR : Hid (Rd w v l) := hr
  have HL : Hid (l.length ≤ 1000000) := hl
  obtain ⟨a, c, rfl, h1, h2, h3, -⟩ := id hr
  obtain ⟨n, hn⟩ : ∃ n : Nat, n = l.length := ⟨_, rfl⟩
  have HN : Hid (n = l.length) := hn
  rw [← hn] at h1 HR ⊢
  unfold maxLen at h2
  cases a with
  | none =>
    have hc0 := h3 rfl
    subst hc0
    have hn0 : n = 0 := by omega
    subst hn0
    have HX : Hid (l = []) := (List.eq_nil_of_length_eq_zero hn.symm : l = [])
    have heq : (binOp .eql 40 (.slice none 0 0) (.slice none 0 0)).run Tryd.prog w = .ok (.bool true) w := Lib.run_eql_slice_nil w _ _ _ _ _ _ _ Tryd.underlying40
    clear hr hl hn h1 h3
    go_enter Tryd.func28, Tryd.ntmps28
    go_wp2
    go_ret
    exact ⟨_, rfl, by rw [HX.out]; exact ⟨World.ownsRow_nil _ _ _ _, Below.refl _ _⟩⟩
  | some ad =>
    have heq : (binOp .eql 40 (.slice (some ad) n c) (.slice none 0 0)).run Tryd.prog w = .ok (.bool false) w := Lib.run_eql_slice_nil w _ _ _ _ _ _ _ Tryd.underlying40
    clear hr hl hn h3
    go_enter Tryd.func28, Tryd.ntmps28
    go_wp2_with (refine wpList_build0b rfl 40 rfl 5 (build_by0 _) ?_)
    intro w1 hO
    have HR1 : Hid (Rd w1 (.slice (some ad) n c) l) := HR.out.kept hO.below
    have HO : Hid _ := hO
    clear hO HR
    go_wp2_with (at_builtin; go_must (refine wpList_append_Own (w0 := w) rfl _ _ 40 rfl Tryd.underlying40 infoU8 _ _ rfl HO.out _ _ rfl HR1.out (by have := HL.out; simp; omega) ?_))
    intro vx w2 hO5
    have HN2 : Hid (New 5 w vx l w2) := (by simpa using hO5.first22 : New 5 w vx l w2)
    clear hO5 HO
    go_wp2
    go_ret
    exact ⟨_, rfl, HN2.out⟩

theorem info_cph : (Tryd.prog.info? 46).map (·.size) = some 2 := by kernel_rfl
theorem build_sn (r0 r1 : Nat) (r2 : Int) (r3 r4 r5 r6 : Nat) (a1 a2 : Option Addr) (l1 c1 l2 c2 n now : Nat) (w : World) : (Instr.build 80 #[(0, .agg #[.int .u64 (r0 : Int), .int .u64 (r1 : Int), .int .i64 r2, .int .u64 (r3 : Int), .int .u64 (r4 : Int), .int .u64 (r5 : Int), .int .u64 (r6 : Int)]), (1, .agg #[.slice a1 l1 c1, .int .u64 (n : Int)]), (2, .slice a2 l2 c2), (4, .int .u64 (now : Int))]).run Tryd.prog w = .ok (.agg #[.int .u64 (r0 : Int), .int .u64 (r1 : Int), .int .i64 r2, .int .u64 (r3 : Int), .int .u64 (r4 : Int), .int .u64 (r5 : Int), .int .u64 (r6 : Int), .slice a1 l1 c1, .int .u64 (n : Int), .slice a2 l2 c2, .int .u64 0, .int .u64 0, .int .u64 0, .int .u64 (now : Int), .int .u64 0]) w := by kernel_rfl
theorem wp_box_sn {w : World} {o : Oper} {a : Act} {K : Act → World → Prop} {Q : Exit → Act → World → Prop} (x : Operand) (ho : o.op = .box 80 x) (cs : List Value) (hx : a.eval x = .agg cs.toArray)
    (h : ∀ g w', w.heap.size ≤ g → BlkAt g 80 cs w' → Below w.heap.size w w' → K (a.put o.dst (.pointer (some ⟨g, 0, none⟩))) w') : o.wp Tryd.prog a w K Q := by
  unfold Oper.wp execOp
  simp only [ho, hx, Sem.run_bind, run_boxB, Result.andThen_ok, Sem.run_pure]
  exact h _ _ (Nat.le_refl _) (BlkAt.fresh rfl rfl) (growB _)

set_option maxRecDepth 100000 in
set_option maxHeartbeats 8000000 in
theorem cnew_any (r : Rl) (v1 v2 : Value) (k1 k2 : List UInt8) (n1 n2 now : Nat) (hk1 : k1.length ≤ 1000000) (hk2 : k2.length ≤ 1000000) (hn1 : n1 < 18446744073709551616) (hn2 : n2 < 18446744073709551616) (hnow : now < 18446744073709551616)
    (A B C : Array Value) (hA : A = #[v1, .int .u64 (n1 : Int)]) (hB : B = #[v2, .int .u64 (n2 : Int)]) (hC : C = (rlC r).toArray) (w : World) (h1 : Rd w v1 k1) (h2 : Rd w v2 k2) :
    Calls Tryd.prog 16 #[.agg A, .agg B, .agg C, .int .u64 (now : Int)] w fun e w' => ∃ g, e = .returned (.pointer (some ⟨g, 0, none⟩)) ∧ w.heap.size ≤ g ∧ SnP g r ⟨⟨k1, n1⟩, ⟨k2, n2⟩, now, 0, []⟩ w' ∧ Below w.heap.size w w' := by
  subst hA hB
  have HC : Hid (C = (rlC r).toArray) := hC
  have HR1 : Hid (Rd w v1 k1) := h1
  have HR2 : Hid (Rd w v2 k2) := h2
  have HK : Hid (k1.length ≤ 1000000 ∧ k2.length ≤ 1000000) := ⟨hk1, hk2⟩
  have HOk : Hid (SesW ⟨⟨k1, n1⟩, ⟨k2, n2⟩, now, 0, []⟩) := ⟨hn1, hn2, hnow, (by decide : 0 < 18446744073709551616), fun x hx => by cases hx⟩
  obtain ⟨a1, c1, rfl, -⟩ := id h1
  obtain ⟨a2, c2, rfl, -⟩ := id h2
  clear hC h1 h2 hk1 hk2 hn1 hn2 hnow
  go_enter Tryd.func16, Tryd.ntmps16
  go_wp2_with (refine wpList_box_blk rfl 46 _ rfl [.slice a1 k1.length c1, .int .u64 (n1 : Int)] rfl ?_)
  intro w1 r1 b1 s1
  go_wp2_with (refine wpList_box_blk rfl 46 _ rfl [.slice a2 k2.length c2, .int .u64 (n2 : Int)] rfl ?_)
  intro w2 r2 b2 s2
  go_wp2_with (refine wpList_box_blk rfl 24 _ rfl (rlC r) (by rw [← HC.out]; rfl) ?_)
  intro w3 r3 b3 s3
  obtain ⟨g1, hg1⟩ : ∃ n : Nat, n = w.heap.size := ⟨_, rfl⟩
  obtain ⟨g2, hg2⟩ : ∃ n : Nat, n = w1.heap.size := ⟨_, rfl⟩
  obtain ⟨g3, hg3⟩ : ∃ n : Nat, n = w2.heap.size := ⟨_, rfl⟩
  rw [← hg1] at r1 ⊢
  rw [← hg2] at r2 ⊢
  rw [← hg3] at r3 ⊢
  have H1 : Hid (BlkAt g1 46 [.slice a1 k1.length c1, .int .u64 (n1 : Int)] w3) := (r1.kept b2).kept b3
  have H2 : Hid (BlkAt g2 46 [.slice a2 k2.length c2, .int .u64 (n2 : Int)] w3) := r2.kept b3
  have H3 : Hid (BlkAt g3 24 (rlC r) w3) := r3
  have HB : Hid (Below w.heap.size w w3) := stepB (stepB b1 b2) b3
  have HG : Hid (w.heap.size ≤ g1 ∧ g1 ≠ g2 ∧ g1 ≠ g3) := ⟨by omega, by have := s1.out; omega, by have := s1.out; have := b2.size; omega⟩
  have c0 : w3.cell? ⟨g1, 0, none⟩ = some (.slice a1 k1.length c1) := H1.out.cell 0
  clear r1 r2 r3 b1 b2 b3 s1 s2 s3 hg1 hg2 hg3 HC
  go_wp2_with fail
  refine (bclone_any _ k1 HK.out.1 _ (HR1.out.kept HB.out)).mono ?_
  rintro e w4 ⟨x1, rfl, hN4⟩
  have hc0 := (H1.out.kept hN4.2).cell 0
  have hf0 := (H1.out.kept hN4.2).free 0
  obtain ⟨a4, c4, rfl, -⟩ := id hN4.rd
  have HB4 : Hid (Below w.heap.size w w4) := stepB HB.out hN4.2
  have hw : Wrote g1 w4 (w4.setCell ⟨g1, 0, none⟩ (.slice a4 k1.length c4)) := Wrote.set _ _ _ _
  have h5 : BlkAt g1 46 [.slice a4 k1.length c4, .int .u64 (n1 : Int)] (w4.setCell ⟨g1, 0, none⟩ (.slice a4 k1.length c4)) := (H1.out.kept hN4.2).set 0 _
  have hn8 : No8 [Value.slice a1 k1.length c1, .int .u64 (n1 : Int)] := No8.of_slices (by
    intro v hv x
    simp only [List.mem_cons, List.not_mem_nil, or_false] at hv
    rcases hv with rfl | rfl <;> simp)
  have h6 : Rd (w4.setCell ⟨g1, 0, none⟩ (.slice a4 k1.length c4)) (.slice a4 k1.length c4) k1 := hN4.rd.past16 (H1.out.kept hN4.2) hn8 (Chg.of_wrote hw)
  have h7 : BlkAt g2 46 [.slice a2 k2.length c2, .int .u64 (n2 : Int)] (w4.setCell ⟨g1, 0, none⟩ (.slice a4 k1.length c4)) := (H2.out.kept hN4.2).wrote hw (fun e => HG.out.2.1 e.symm)
  have h8 : BlkAt g3 24 (rlC r) (w4.setCell ⟨g1, 0, none⟩ (.slice a4 k1.length c4)) := (H3.out.kept hN4.2).wrote hw (fun e => HG.out.2.2 e.symm)
  have h9 : Rd (w4.setCell ⟨g1, 0, none⟩ (.slice a4 k1.length c4)) (.slice a2 k2.length c2) k2 := (HR2.out.kept HB4.out).past16 (H1.out.kept hN4.2) hn8 (Chg.of_wrote hw)
  have h10 : Below w.heap.size w (w4.setCell ⟨g1, 0, none⟩ (.slice a4 k1.length c4)) := hw.below _ _ HG.out.1 HB4.out
  obtain ⟨w5, hw5⟩ : ∃ w5, w5 = w4.setCell ⟨g1, 0, none⟩ (.slice a4 k1.length c4) := ⟨_, rfl⟩
  rw [← hw5] at h5 h6 h7 h8 h9 h10
  have H5 : Hid (BlkAt g1 46 [.slice a4 k1.length c4, .int .u64 (n1 : Int)] w5) := h5
  have H6 : Hid (Rd w5 (.slice a4 k1.length c4) k1) := h6
  have H7 : Hid (BlkAt g2 46 [.slice a2 k2.length c2, .int .u64 (n2 : Int)] w5) := h7
  have H8 : Hid (BlkAt g3 24 (rlC r) w5) := h8
  have H9 : Hid (Rd w5 (.slice a2 k2.length c2) k2) := h9
  have H10 : Hid (Below w.heap.size w w5) := h10
  clear hN4 h5 h6 h7 h8 h9 h10 hw H1 H2 H3 HB HR1 HR2 HB4 c0
  go_wp2_with fail
  rw [← hw5]
  clear hc0 hf0 hw5
  refine wpG_begin (by kernel_rfl) ?_
  refine gU_ 0 rfl ⟨_, by intro W hW; refine Eq.trans (exec_load_part 24 _ (by rfl) (by rfl) [] (rlC r) [] H8.out.drew hW (by rfl) rfl Tryd.underlying24 rfl info_rl) ?_; with_reducible rfl, ?_⟩
  try simp only [Act.put, pA_, pB_, pC_]
  refine gU_ 1 rfl ⟨_, by intro W hW; refine Eq.trans (exec_load_part 46 _ (by rfl) (by rfl) [] [.slice a4 k1.length c4, .int .u64 (n1 : Int)] [] H5.out.drew hW (by rfl) rfl Tryd.underlying46 rfl info_cph) ?_; with_reducible rfl, ?_⟩
  try simp only [Act.put, pA_, pB_, pC_]
  refine gU_ 2 rfl ⟨_, by intro W hW; go_simp <;> with_reducible rfl, ?_⟩
  try simp only [Act.put, pA_, pB_, pC_]
  refine gU_ 3 rfl ⟨_, by intro W hW; have cW : W.cell? ⟨g2, 0, none⟩ = some (.slice a2 k2.length c2) := (H7.out.drew.kept hW).cell 0; go_simp <;> with_reducible rfl, ?_⟩
  try simp only [Act.put, pA_, pB_, pC_]
  refine gU_ 5 rfl ⟨_, by intro W hW; go_simp <;> with_reducible rfl, ?_⟩
  try simp only [Act.put, pA_, pB_, pC_]
  refine gD_ 4 fun K hK => ?_
  go_simp
  refine (bclone_any _ k2 HK.out.2 _ (H9.out.kept (Below.refl _ w5).drew)).mono ?_
  rintro e w6 ⟨x2, rfl, hN6⟩
  obtain ⟨a6, c6, rfl, -⟩ := id hN6.rd
  have HN6 : Hid (New 5 w5.drew (.slice a6 k2.length c6) k2 w6) := hN6
  refine hK.out _ _ HN6.out.2 ?_
  clear hK K
  try simp only [Act.put, pA_, pB_, pC_]
  refine gU_ 6 rfl ⟨_, by intro W hW; refine Eq.trans (exec_build 80 _ (by rfl) #[(0, .agg (rlC r).toArray), (1, .agg #[.slice a4 k1.length c4, .int .u64 (n1 : Int)]), (2, .slice a6 k2.length c6), (4, .int .u64 (now : Int))] (by go_simp; done) _ (build_sn _ _ _ _ _ _ _ _ _ _ _ _ _ _ _ _)) ?_; with_reducible rfl, ?_⟩
  try simp only [Act.put, pA_, pB_, pC_]
  refine gD_ 7 fun K hK => ?_
  refine wp_box_sn _ rfl (snC r (.slice a4 k1.length c4) (.slice a6 k2.length c6) n1 0 0 0 now 0) (by rfl) ?_
  intro g wx hgx hX bX
  have HX : Hid (w6.heap.size ≤ g ∧ BlkAt g 80 (snC r (.slice a4 k1.length c4) (.slice a6 k2.length c6) n1 0 0 0 now 0) wx ∧ Below w6.heap.size w6 wx) := ⟨hgx, hX, bX⟩
  refine hK.out _ _ HX.out.2.2 ?_
  clear hK K
  try simp only [Act.put, pA_, pB_, pC_]
  refine gU_ 8 rfl ⟨_, by intro W hW; go_simp <;> with_reducible rfl, ?_⟩
  try simp only [Act.put, pA_, pB_, pC_]
  refine wpG_done (by kernel_rfl) ?_
  have H5B : Hid (Below w5.heap.size w5 w6) := (stepB (Below.refl _ w5).drew HN6.out.2 : Below w5.heap.size w5 w6)
  have HZ : Hid (w.heap.size ≤ g ∧ SnP g r ⟨⟨k1, n1⟩, ⟨k2, n2⟩, now, 0, []⟩ wx ∧ Below w.heap.size w wx) := by
    refine ⟨?_, ⟨HOk.out, a4, c4, a6, c6, 0, 0, Wn.none, (by decide : tpN [] < 18446744073709551616), HX.out.2.1, (H6.out.kept H5B.out).kept HX.out.2.2, HN6.out.rd.kept HX.out.2.2⟩, stepB (stepB H10.out H5B.out) HX.out.2.2⟩
    have := HX.out.1
    have := H5B.out.size
    have := H10.out.size
    omega
  clear HX H5B HN6 H5 H6 H7 H8 H9 H10
  go_wp2
  go_ret
  exact ⟨g, rfl, HZ.out.1, HZ.out.2.1, HZ.out.2.2⟩
end Go.Proofs.YtliiofjcghdjoaaDoor

/- Sealing: contracts of package session, fifth part. -/
namespace Go.Proofs.YtliiofjcghdjoaaDoor
open Go.ChangeShapes Go.WideShapes Go.ChangeAt Go.RowKit
set_option linter.unusedSimpArgs false
set_option linter.unusedVariables false

set_option maxRecDepth 100000 in
set_option maxHeartbeats 8000000 in
theorem zseal_any (g : Nat) (r : Rl) (hr : RlW r) (s : Ses) (vt : Value) (t : List UInt8) (hlt : t.length ≤ 3000000) (now : Nat) (hnow : now < 18446744073709551616) (w : World) (h : SnP g r s w) (ht : Rd w vt t) (hP : PlT w) (hT : KpT w) :
    Calls Tryd.prog 17 #[.pointer (some ⟨g, 0, none⟩), vt, .int .u64 (now : Int)] w fun e w' => ∃ x, e = .returned (.tuple #[.int .u64 (((ssS r s t now).2.1 : Nat) : Int), x, .int .i64 (ssS r s t now).2.2.2]) ∧ Ow 5 w.heap.size x (ssS r s t now).2.2.1 w' ∧ SnP g r (ssS r s t now).1 w' ∧ Chg (fun i => i = g) w w' := by
  have HOk := ssS_ok (t := t) (now := now) hr h.ok
  have HX : Hid (Calls Tryd.prog 24 #[.pointer (some ⟨g, 0, none⟩), .int .u64 (now : Int)] w fun e w' => e = .returned (.bool (exB r s now)) ∧ Below w.heap.size w w') := cexpired_any g r s now hnow w h
  have HS : Hid (SnP g r s w) := h
  have HG : Hid (ssS r s t now = if exB r s now = true then (s, 0, [], 52) else if (seC s.snd [] t).2.2 ≠ 0 then (s, 0, [], (seC s.snd [] t).2.2) else (⟨(seC s.snd [] t).1, s.rcv, s.born, s.sent + 1, s.came⟩, s.snd.n, (seC s.snd [] t).2.1, 0)) := rfl
  have HSe : exB r s now = false → s.sent + 1 < 18446744073709551616 := exB_sent hr
  have HI : Hid (Rd w vt t ∧ PlT w ∧ KpT w ∧ t.length ≤ 3000000) := ⟨ht, hP, hT, hlt⟩
  obtain ⟨at', ct, rfl, -⟩ := id ht
  obtain ⟨G, hGe⟩ : ∃ G, G = ssS r s t now := ⟨_, rfl⟩
  rw [← hGe] at HG HOk ⊢
  have HK : Hid (SesW G.1) := HOk
  clear hGe HOk hr hlt hnow h ht hP hT
  by_cases hx : exB r s now = true
  · rw [hx] at HX
    have hG : G = (s, 0, [], 52) := by rw [HG.out, if_pos hx]
    subst hG
    clear hx HG HSe
    go_enter Tryd.func17, Tryd.ntmps17
    go_wp2_with fail
    refine Calls.mono HX.out ?_
    rintro e w1 ⟨rfl, b1⟩
    have HB : Hid (Below w.heap.size w w1) := b1
    clear b1 HX
    go_wp2
    go_ret3
    exact ⟨_, rfl, Ow.nil _ _ _, HS.out.kept HB.out, Chg.of_below HB.out⟩
  · have hxf : exB r s now = false := by simpa using hx
    rw [hxf] at HX
    have hse := HSe hxf
    obtain ⟨q, hq⟩ : ∃ q, q = seC s.snd [] t := ⟨_, rfl⟩
    have HE : Hid (q.2.2 ≠ 0 → q.1 = s.snd) := fun h => by rw [hq] at h ⊢; exact seC_err h
    have HKy : Hid (q.1.key = s.snd.key) := (by rw [hq]; exact seC_kept _ _ _ : q.1.key = s.snd.key)
    have HSl : Hid (∀ (W : World) (a1 : Option Addr) (c1 : Nat) (pre post : List Value), pre.length = 7 → Below w.heap.size w W → BlkAt g 80 (inB pre post (.slice a1 s.snd.key.length c1) s.snd.n) W → Rd W (.slice a1 s.snd.key.length c1) s.snd.key →
        Calls Tryd.prog 29 #[.pointer (some ⟨g, 7, none⟩), .slice none 0 0, .slice at' t.length ct] W fun e w' => ∃ x, e = .returned (.tuple #[x, .int .i64 q.2.2]) ∧ Ow 5 W.heap.size x q.2.1 w' ∧ Chg (fun i => i = g) W w' ∧ BlkAt g 80 (inB pre post (.slice a1 s.snd.key.length c1) q.1.n) w') := fun W a1 c1 pre post hp hW hB hk => by
      rw [hq]
      exact cseal_any s.snd HS.out.ok.sn [] t (by simp) HI.out.2.2.2 g 7 80 (by decide) pre post hp a1 c1 _ _ W hB hk (Rd.nil W) (HI.out.1.kept hW) (HI.out.2.1.kept hW) (HI.out.2.2.1.kept hW)
    rw [← hq, if_neg hx] at HG
    obtain ⟨⟨qk, qn⟩, qt, qe⟩ := q
    simp only at HG HE HKy HSl
    obtain ⟨a1, c1, a2, c2, a, b, hw, hT64, hB, hk1, hk2⟩ := HS.out.mem
    have HM : Hid (Wn s.came a b ∧ tpN s.came < 18446744073709551616 ∧ BlkAt g 80 (snC r (.slice a1 s.snd.key.length c1) (.slice a2 s.rcv.key.length c2) s.snd.n (tpN s.came) a b s.born s.sent) w ∧ Rd w (.slice a1 s.snd.key.length c1) s.snd.key ∧ Rd w (.slice a2 s.rcv.key.length c2) s.rcv.key) := ⟨hw, hT64, hB, hk1, hk2⟩
    clear hx hxf hq HSe hw hT64 hB hk1 hk2
    go_enter Tryd.func17, Tryd.ntmps17
    go_wp2_with fail
    refine Calls.mono HX.out ?_
    rintro e w1 ⟨rfl, b1⟩
    have HB : Hid (Below w.heap.size w w1) := b1
    have c8 : w1.cell? ⟨g, 8, none⟩ = some (.int .u64 (s.snd.n : Int)) := (HM.out.2.2.1.kept b1).cell 8
    clear b1 HX
    go_wp2_with fail
    refine (HSl.out w1 a1 c1 [.int .u64 (r.retry : Int), .int .u64 (r.rmax : Int), .int .i64 r.tries, .int .u64 (r.rekey : Int), .int .u64 (r.expire : Int), .int .u64 (r.rcount : Int), .int .u64 (r.ecount : Int)] [.slice a2 s.rcv.key.length c2, .int .u64 ((tpN s.came : Nat) : Int), .int .u64 (a : Int), .int .u64 (b : Int), .int .u64 (s.born : Int), .int .u64 (s.sent : Int)] rfl HB.out (HM.out.2.2.1.kept HB.out) (HM.out.2.2.2.1.kept HB.out)).mono ?_
    rintro e w2 ⟨x, rfl, hO, hC, hB2⟩
    have hB2' : BlkAt g 80 (snC r (.slice a1 s.snd.key.length c1) (.slice a2 s.rcv.key.length c2) qn (tpN s.came) a b s.born s.sent) w2 := hB2
    have hr1 : Rd w2 (.slice a1 s.snd.key.length c1) s.snd.key := (HM.out.2.2.2.1.kept HB.out).past16 (HM.out.2.2.1.kept HB.out) (snC_no8 _ _ _ _ _ _ _ _ _ _ _ _ _) hC
    have hr2 : Rd w2 (.slice a2 s.rcv.key.length c2) s.rcv.key := (HM.out.2.2.2.2.kept HB.out).past16 (HM.out.2.2.1.kept HB.out) (snC_no8 _ _ _ _ _ _ _ _ _ _ _ _ _) hC
    have hOw : Ow 5 w.heap.size x qt w2 := hO.mono HB.out.size
    have hCg : Chg (fun i => i = g) w w2 := (Chg.of_below HB.out).trans hC
    have HB2 : Hid (BlkAt g 80 (snC r (.slice a1 s.snd.key.length c1) (.slice a2 s.rcv.key.length c2) qn (tpN s.came) a b s.born s.sent) w2 ∧ Rd w2 (.slice a1 s.snd.key.length c1) s.snd.key ∧ Rd w2 (.slice a2 s.rcv.key.length c2) s.rcv.key ∧ Ow 5 w.heap.size x qt w2 ∧ Chg (fun i => i = g) w w2) := ⟨hB2', hr1, hr2, hOw, hCg⟩
    have c14 : w2.cell? ⟨g, 14, none⟩ = some (.int .u64 (s.sent : Int)) := hB2'.cell 14
    have f14 := hB2'.free 14
    clear hB2 hB2' hr1 hr2 hOw hCg hO hC HSl HB c8
    by_cases he : qe = 0
    · subst he
      have hG : G = (⟨⟨qk, qn⟩, s.rcv, s.born, s.sent + 1, s.came⟩, s.snd.n, qt, 0) := by rw [HG.out]; exact if_neg (by simp)
      subst hG
      obtain ⟨m, hm⟩ : ∃ m, m = s.sent + 1 := ⟨_, rfl⟩
      have e1 : IntKind.u64.wrap ((s.sent : Int) + 1) = (m : Int) := by rw [IntKind.wrap_u64]; omega
      have HMm : Hid (m = s.sent + 1) := hm
      clear hm hse HG HE
      go_wp2_with fail
      go_ret3
      have hB3 := HB2.out.1.set 14 (.int .u64 (m : Int))
      have hc3 : Chg (fun i => i = g) w2 (w2.setCell ⟨g, 14, none⟩ (.int .u64 (m : Int))) := Chg.of_wrote (Wrote.set g 14 w2 (.int .u64 (m : Int)))
      have hky : qk = s.snd.key := HKy.out
      subst hky
      refine ⟨_, rfl, HB2.out.2.2.2.1.chg HB2.out.1 (by decide) hc3, ⟨HK.out, a1, c1, a2, c2, a, b, HM.out.1, HM.out.2.1, ?_, HB2.out.2.1.past16 HB2.out.1 (snC_no8 _ _ _ _ _ _ _ _ _ _ _ _ _) hc3, HB2.out.2.2.1.past16 HB2.out.1 (snC_no8 _ _ _ _ _ _ _ _ _ _ _ _ _) hc3⟩, HB2.out.2.2.2.2.trans hc3⟩
      show BlkAt g _ (snC r _ _ qn (tpN s.came) a b s.born (s.sent + 1)) _
      rw [← HMm.out]
      exact hB3
    · have hG : G = (s, 0, [], qe) := by rw [HG.out]; exact if_pos he
      subst hG
      have hqn : qn = s.snd.n := congrArg Cph.n (HE.out he)
      subst hqn
      have e6 : (qe != 0) = true := by simpa using he
      clear HG HE hse he
      go_wp2_with fail
      go_ret3
      exact ⟨_, rfl, Ow.nil _ _ _, ⟨HK.out, a1, c1, a2, c2, a, b, HM.out.1, HM.out.2.1, HB2.out.1, HB2.out.2.1, HB2.out.2.2.1⟩, HB2.out.2.2.2.2⟩
end Go.Proofs.YtliiofjcghdjoaaDoor

/- Opening, and what is none: contracts of package session, sixth part. -/
namespace Go.Proofs.YtliiofjcghdjoaaDoor
open Go.ChangeShapes Go.WideShapes Go.ChangeAt Go.RowKit
set_option linter.unusedSimpArgs false
set_option linter.unusedVariables false

theorem alloc_cph (w : World) : (Instr.alloc 46 true (.tuple #[])).run Tryd.prog w = .ok (.pointer (some ⟨w.heap.size, 0, none⟩)) (w.alloc (.cells [Value.slice none 0 0, .int .u64 0].toArray 46)) := by kernel_rfl
theorem build_cph (a : Option Addr) (l c n : Nat) (w : World) : (Instr.build 46 #[(0, .slice a l c), (1, .int .u64 (n : Int))]).run Tryd.prog w = .ok (.agg [Value.slice a l c, .int .u64 (n : Int)].toArray) w := by kernel_rfl
theorem info_cph2 : (Tryd.prog.info? 46).map (·.size) = some 2 := by kernel_rfl
theorem one_cph (a : Option Addr) (l c n : Nat) : [Value.slice a l c, .int .u64 (n : Int)].toArray.all (·.oneCell') = true := by kernel_rfl
/-- The cells beside the window. -/
def snF (r : Rl) (v1 v2 : Value) (n born sent : Nat) (i : Nat) : Value := (snC r v1 v2 n 0 0 0 born sent).getD i undef
theorem snF_wi (r : Rl) (v1 v2 : Value) (n T a b born sent : Nat) : snC r v1 v2 n T a b born sent = wiC (snF r v1 v2 n born sent) T a b := rfl

set_option maxRecDepth 100000 in
set_option maxHeartbeats 8000000 in
theorem zopen_any (g : Nat) (r : Rl) (s : Ses) (n : Nat) (hn : n < 18446744073709551616) (vb : Value) (b : List UInt8) (hlb : b.length ≤ 3000000) (now : Nat) (hnow : now < 18446744073709551616) (w : World) (h : SnP g r s w) (hb : Rd w vb b) (hP : PlT w) (hT : KpT w) :
    Calls Tryd.prog 19 #[.pointer (some ⟨g, 0, none⟩), .int .u64 (n : Int), vb, .int .u64 (now : Int)] w fun e w' => ∃ x, e = .returned (.tuple #[x, .int .i64 (ssO r s n b now).2.2]) ∧ Ow 5 w.heap.size x (ssO r s n b now).2.1 w' ∧ SnP g r (ssO r s n b now).1 w' ∧ Chg (fun i => i = g) w w' := by
  have HOk := ssO_ok (r := r) (b := b) (now := now) h.ok hn
  have HX : Hid (Calls Tryd.prog 31 #[.pointer (some ⟨g, 0, none⟩), .int .u64 (now : Int)] w fun e w' => e = .returned (.bool (decide (r.expire ≤ snN s.born now))) ∧ Below w.heap.size w w') := cold_any g r s now hnow w h
  have HS : Hid (SnP g r s w) := h
  have HG : Hid (ssO r s n b now = if r.expire ≤ snN s.born now then (s, [], 52) else if cmE s.came n ≠ 0 then (s, [], cmE s.came n) else if (opC ⟨s.rcv.key, n⟩ [] b).2.2 ≠ 0 then (s, [], (opC ⟨s.rcv.key, n⟩ [] b).2.2) else (⟨s.snd, s.rcv, s.born, s.sent, (mkL s.came n).1⟩, (opC ⟨s.rcv.key, n⟩ [] b).2.1, 0)) := rfl
  have HI : Hid (Rd w vb b ∧ PlT w ∧ KpT w ∧ b.length ≤ 3000000) := ⟨hb, hP, hT, hlb⟩
  have HN : Hid (n < 18446744073709551616) := hn
  obtain ⟨ab, cb, rfl, -⟩ := id hb
  obtain ⟨G, hGe⟩ : ∃ G, G = ssO r s n b now := ⟨_, rfl⟩
  rw [← hGe] at HG HOk ⊢
  have HK : Hid (SesW G.1) := HOk
  clear hGe HOk hlb hnow h hb hP hT hn
  by_cases hx : r.expire ≤ snN s.born now
  · rw [decide_eq_true hx] at HX
    have hG : G = (s, [], 52) := by rw [HG.out, if_pos hx]
    subst hG
    clear hx HG
    go_enter Tryd.func19, Tryd.ntmps19
    go_wp2_with fail
    refine Calls.mono HX.out ?_
    rintro e w1 ⟨rfl, b1⟩
    have HB : Hid (Below w.heap.size w w1) := b1
    clear b1 HX
    go_wp2
    go_ret2
    exact ⟨_, rfl, Ow.nil _ _ _, HS.out.kept HB.out, Chg.of_below HB.out⟩
  · rw [decide_eq_false hx] at HX
    rw [if_neg hx] at HG
    obtain ⟨a1, c1, a2, c2, x, y, hw, hT64, hB, hk1, hk2⟩ := HS.out.mem
    have HM : Hid (Wn s.came x y ∧ tpN s.came < 18446744073709551616 ∧ BlkAt g 80 (snC r (.slice a1 s.snd.key.length c1) (.slice a2 s.rcv.key.length c2) s.snd.n (tpN s.came) x y s.born s.sent) w ∧ Rd w (.slice a1 s.snd.key.length c1) s.snd.key ∧ Rd w (.slice a2 s.rcv.key.length c2) s.rcv.key) := ⟨hw, hT64, hB, hk1, hk2⟩
    obtain ⟨f, hf⟩ : ∃ f, f = snF r (.slice a1 s.snd.key.length c1) (.slice a2 s.rcv.key.length c2) s.snd.n s.born s.sent := ⟨_, rfl⟩
    have HF : Hid (∀ T a b, wiC f T a b = snC r (.slice a1 s.snd.key.length c1) (.slice a2 s.rcv.key.length c2) s.snd.n T a b s.born s.sent) := fun T a b => by rw [hf]; exact (snF_wi ..).symm
    have HCk : Hid (∀ W, Below w.heap.size w W → Calls Tryd.prog 32 #[.pointer (some ⟨g, 10, none⟩), .int .u64 (n : Int)] W fun e w' => e = .returned (.int .i64 (cmE s.came n)) ∧ w' = W) := fun W hW => wcheck22_any f g s.came n _ rfl HN.out W ⟨x, y, HM.out.1, HM.out.2.1, by rw [HF.out]; exact HM.out.2.2.1.kept hW⟩
    have HMk : Hid (∀ W, Below w.heap.size w W → Calls Tryd.prog 34 #[.pointer (some ⟨g, 10, none⟩), .int .u64 (n : Int)] W fun e w' => e = .returned (.int .i64 (mkL s.came n).2) ∧ WnP22 g f (mkL s.came n).1 w' ∧ Chg (fun i => i = g) W w') := fun W hW => wmark22_any f g s.came n _ rfl HN.out W ⟨x, y, HM.out.1, HM.out.2.1, by rw [HF.out]; exact HM.out.2.2.1.kept hW⟩
    obtain ⟨ck, hck⟩ : ∃ ck, ck = cmE s.came n := ⟨_, rfl⟩
    rw [← hck] at HG HCk
    clear hx hf hw hT64 hB hk1 hk2 hck
    by_cases h1 : ck = 0
    · subst h1
      rw [if_neg (by simp)] at HG
      obtain ⟨q, hq⟩ : ∃ q, q = opC ⟨s.rcv.key, n⟩ [] b := ⟨_, rfl⟩
      have HOp : Hid (∀ (W : World) (k : Nat), Below w.heap.size w W → BlkAt k 46 [Value.slice a2 s.rcv.key.length c2, .int .u64 (n : Int)] W →
          Calls Tryd.prog 33 #[.pointer (some ⟨k, 0, none⟩), .slice none 0 0, .slice ab b.length cb] W fun e w' => ∃ x, e = .returned (.tuple #[x, .int .i64 q.2.2]) ∧ Ow 5 W.heap.size x q.2.1 w' ∧ Chg (fun i => i = k) W w') := fun W k hW hB => by
        rw [hq]
        refine (copen_any ⟨s.rcv.key, n⟩ HN.out [] b (by simp) HI.out.2.2.2 k 0 46 (by decide) [] [] rfl a2 c2 _ _ W hB (HM.out.2.2.2.2.kept hW) (Rd.nil W) (HI.out.1.kept hW) (HI.out.2.1.kept hW) (HI.out.2.2.1.kept hW)).mono ?_
        rintro e w' ⟨x, rfl, h1, h2, -⟩
        exact ⟨x, rfl, h1, h2⟩
      rw [← hq] at HG
      obtain ⟨⟨qk, qn⟩, qt, qe⟩ := q
      simp only at HG HOp
      clear hq
      go_enter Tryd.func19, Tryd.ntmps19
      go_wp2_with fail
      refine Calls.mono HX.out ?_
      rintro e w1 ⟨rfl, b1⟩
      have HB : Hid (Below w.heap.size w w1) := b1
      clear b1 HX
      go_wp2_with fail
      refine (HCk.out w1 HB.out).mono ?_
      rintro e w2 ⟨rfl, rfl⟩
      have c9 : w2.cell? ⟨g, 9, none⟩ = some (.slice a2 s.rcv.key.length c2) := (HM.out.2.2.1.kept HB.out).cell 9
      clear HCk
      go_wp2_with (first | refine wpList_buildB rfl 46 _ rfl #[(0, .slice a2 s.rcv.key.length c2), (1, .int .u64 (n : Int))] (by go_simp; done) _ (build_cph _ _ _ _ _) ?_ | refine wpList_alloc_blk rfl 46 rfl [Value.slice none 0 0, .int .u64 0] (alloc_cph _) ?_)
      intro w3 r3 b3 s3
      obtain ⟨k, hk⟩ : ∃ k, k = w2.heap.size := ⟨_, rfl⟩
      rw [← hk] at r3 ⊢
      have HR3 : Hid (BlkAt k 46 [Value.slice none 0 0, .int .u64 0] w3 ∧ Below w2.heap.size w2 w3 ∧ w2.heap.size ≤ k) := ⟨r3, b3, by omega⟩
      clear r3 b3 s3 hk c9
      go_wp2_with (first | refine wpList_buildB rfl 46 _ rfl #[(0, .slice a2 s.rcv.key.length c2), (1, .int .u64 (n : Int))] (by go_simp; done) _ (build_cph _ _ _ _ _) ?_ | refine wpList_store_part rfl 46 _ _ rfl rfl [Value.slice a2 s.rcv.key.length c2, .int .u64 (n : Int)] rfl [] [Value.slice none 0 0, .int .u64 0] [] [Value.slice a2 s.rcv.key.length c2, .int .u64 (n : Int)] HR3.out.1 rfl rfl rfl rfl info_cph2 (one_cph _ _ _ _) ?_)
      intro w4 r4 hw4
      have HR4 : Hid (BlkAt k 46 [Value.slice a2 s.rcv.key.length c2, .int .u64 (n : Int)] w4 ∧ Below w.heap.size w w4 ∧ w.heap.size ≤ k) := ⟨r4, stepB HB.out (hw4.below _ _ HR3.out.2.2 HR3.out.2.1), Nat.le_trans HB.out.size HR3.out.2.2⟩
      clear r4 hw4 HR3
      go_wp2_with fail
      refine (HOp.out w4 k HR4.out.2.1 HR4.out.1).mono ?_
      rintro e w5 ⟨z, rfl, hO, hC⟩
      have hB5 : Below w.heap.size w w5 := Chg.gone HR4.out.2.1 hC HR4.out.2.1.size HR4.out.2.2
      have HO5 : Hid (Ow 5 w.heap.size z qt w5 ∧ Below w.heap.size w w5) := ⟨hO.mono HR4.out.2.1.size, hB5⟩
      clear hO hC hB5 HOp HR4 HB
      by_cases he : qe = 0
      · subst he
        have hG : G = (⟨s.snd, s.rcv, s.born, s.sent, (mkL s.came n).1⟩, qt, 0) := by rw [HG.out]; exact if_neg (by simp)
        subst hG
        clear HG
        go_wp2_with fail
        refine (HMk.out w5 HO5.out.2).mono ?_
        rintro e w6 ⟨rfl, hW6, hC6⟩
        have HW6 : Hid (WnP22 g f (mkL s.came n).1 w6 ∧ Chg (fun i => i = g) w5 w6) := ⟨hW6, hC6⟩
        clear hW6 hC6 HMk
        go_wp2
        go_ret2
        obtain ⟨x', y', hwn, ht, hbl⟩ := HW6.out.1
        rw [HF.out] at hbl
        have hb5 := HM.out.2.2.1.kept HO5.out.2
        exact ⟨_, rfl, HO5.out.1.chg hb5 (by decide) HW6.out.2, ⟨HK.out, a1, c1, a2, c2, x', y', hwn, ht, hbl, (HM.out.2.2.2.1.kept HO5.out.2).past16 hb5 (snC_no8 _ _ _ _ _ _ _ _ _ _ _ _ _) HW6.out.2, (HM.out.2.2.2.2.kept HO5.out.2).past16 hb5 (snC_no8 _ _ _ _ _ _ _ _ _ _ _ _ _) HW6.out.2⟩, (Chg.of_below HO5.out.2).trans HW6.out.2⟩
      · have hG : G = (s, [], qe) := by rw [HG.out]; exact if_pos he
        subst hG
        have e6 : (qe != 0) = true := by simpa using he
        clear HG he
        go_wp2_with fail
        go_ret2
        exact ⟨_, rfl, Ow.nil _ _ _, HS.out.kept HO5.out.2, Chg.of_below HO5.out.2⟩
    · have hG : G = (s, [], ck) := by rw [HG.out]; exact if_pos h1
      subst hG
      have e6 : (ck != 0) = true := by simpa using h1
      clear HG h1
      go_enter Tryd.func19, Tryd.ntmps19
      go_wp2_with fail
      refine Calls.mono HX.out ?_
      rintro e w1 ⟨rfl, b1⟩
      have HB : Hid (Below w.heap.size w w1) := b1
      clear b1 HX
      go_wp2_with fail
      refine (HCk.out w1 HB.out).mono ?_
      rintro e w2 ⟨rfl, rfl⟩
      clear HCk
      go_wp2
      go_ret2
      exact ⟨_, rfl, Ow.nil _ _ _, HS.out.kept HB.out, Chg.of_below HB.out⟩

/-- Of none. -/
theorem zseal_none (vt : Value) (N : Int) (w : World) : Calls Tryd.prog 17 #[.pointer none, vt, .int .u64 N] w fun e w' => e = .returned (.tuple #[.int .u64 0, .slice none 0 0, .int .i64 1]) ∧ w' = w := by
  go_enter Tryd.func17, Tryd.ntmps17
  go_wp2
  go_ret3
  exact ⟨rfl, rfl⟩
theorem zopen_none (M : Int) (vb : Value) (N : Int) (w : World) : Calls Tryd.prog 19 #[.pointer none, .int .u64 M, vb, .int .u64 N] w fun e w' => e = .returned (.tuple #[.slice none 0 0, .int .i64 1]) ∧ w' = w := by
  go_enter Tryd.func19, Tryd.ntmps19
  go_wp2
  go_ret2
  exact ⟨rfl, rfl⟩
theorem csent_none (w : World) : Calls Tryd.prog 21 #[.pointer none] w fun e w' => e = .returned (.int .u64 0) ∧ w' = w := by
  go_enter Tryd.func21, Tryd.ntmps21
  go_wp2
  go_ret
  exact ⟨rfl, rfl⟩
theorem crekey_none (N : Int) (w : World) : Calls Tryd.prog 22 #[.pointer none, .int .u64 N] w fun e w' => e = .returned (.bool true) ∧ Below w.heap.size w w' := by
  go_enter Tryd.func22, Tryd.ntmps22
  go_wp2_with (go_quiet (fail))
  go_ret
  exact ⟨rfl, below_drewN22 (Below.refl _ _) _⟩
theorem cexpired_none (N : Int) (w : World) : Calls Tryd.prog 24 #[.pointer none, .int .u64 N] w fun e w' => e = .returned (.bool true) ∧ Below w.heap.size w w' := by
  go_enter Tryd.func24, Tryd.ntmps24
  go_wp2_with (go_quiet (fail))
  go_ret
  exact ⟨rfl, below_drewN22 (Below.refl _ _) _⟩
theorem cdue_none (N : Int) (w : World) : Calls Tryd.prog 13 #[.pointer none, .int .u64 N] w fun e w' => e = .returned (.bool false) ∧ Below w.heap.size w w' := by
  go_enter Tryd.func13, Tryd.ntmps13
  go_wp2_with (go_quiet (fail))
  go_ret
  exact ⟨rfl, below_drewN22 (Below.refl _ _) _⟩
theorem cagain_none (N : Int) (w : World) : Calls Tryd.prog 15 #[.pointer none, .int .u64 N] w fun e w' => e = .returned (.bool false) ∧ Below w.heap.size w w' := by
  go_enter Tryd.func15, Tryd.ntmps15
  go_wp2_with (go_quiet (fail))
  go_wp2
  go_ret
  exact ⟨rfl, below_drewN22 (Below.refl _ _) _⟩
end Go.Proofs.YtliiofjcghdjoaaDoor
