/- What the law SpongeReads answers at every input: the walk. -/
import Derived.Test.YthajkimmnceoiaaDoorS03h
import Derived.Test.YthajkimmnceoiaaDoorRef03r
import Derived.Test.YthajkimmnceoiaaDoorRef03s
namespace Go.Proofs.YthajkimmnceoiaaDoor
open Go.ChangeShapes Go.WideShapes Go.ChangeAt Go.RowKit
set_option linter.unusedSimpArgs false
set_option linter.unusedVariables false

/-- Two things that are read, and what was read, side by side. -/
structure RS (w3 : World) (gx gy : Nat) (fx fy : Nat → Nat) (p q : Value) (n : Nat) (wr : World) : Prop where
  x : XP gx fx 168 n wr
  y : XP gy fy 136 n wr
  rp : wr.ownsRow w3.heap.size 5 1 p (otL fx 168 n).length ((otL fx 168 n).map bv)
  rq : wr.ownsRow w3.heap.size 5 1 q (otL fy 136 n).length ((otL fy 136 n).map bv)
  ap : Apart p q
  c : Chg (fun b => b = gx ∨ b = gy) w3 wr
  t : Tabs wr
theorem RS.chg {S : Nat → Prop} {w3 : World} {gx gy : Nat} {fx fy : Nat → Nat} {p q : Value} {n : Nat} {wr w' : World} (h : RS w3 gx gy fx fy p q n wr) (c : Chg S wr w') (hk : 1 < w3.heap.size) (hx : gx < w3.heap.size) (hy : gy < w3.heap.size)
    (hS : ∀ k, k < w3.heap.size → ¬ S k) (hp : ∀ g, p.ownBlock = some g → ¬ S g) (hq : ∀ g, q.ownBlock = some g → ¬ S g) : RS w3 gx gy fx fy p q n w' :=
  ⟨h.x.chg c (hS _ hx), h.y.chg c (hS _ hy), own_chg h.rp c hp, own_chg h.rq c hq, h.ap, h.c.step c (fun i hi hs => absurd hs (hS i hi)), h.t.chg c (fun k hk' => hS k (by omega))⟩
theorem RS.drew {w3 : World} {gx gy : Nat} {fx fy : Nat → Nat} {p q : Value} {n : Nat} {wr : World} (h : RS w3 gx gy fx fy p q n wr) : RS w3 gx gy fx fy p q n wr.drew := ⟨h.x, h.y, h.rp.drew, h.rq.drew, h.ap, h.c.drew, h.t.kept (Below.refl _ _).drew⟩

/-- .. and two rows that are turned in place. -/
structure RT (w3 : World) (gx gy : Nat) (fx fy : Nat → Nat) (p q u v : Value) (n m : Nat) (wr : World) : Prop where
  s : RS w3 gx gy fx fy p q n wr
  ru : ∃ l : List UInt8, l.length = m ∧ wr.ownsRow w3.heap.size 5 1 u l.length (l.map bv)
  rv : ∃ l : List UInt8, l.length = m ∧ wr.ownsRow w3.heap.size 5 1 v l.length (l.map bv)
  up : Apart u p
  uq : Apart u q
  vp : Apart v p
  vq : Apart v q
  uv : Apart u v
theorem RT.turnU {w3 : World} {gx gy : Nat} {fx fy : Nat → Nat} {p q v : Value} {a : Option Addr} {cap n m : Nat} {wr : World} (h : RT w3 gx gy fx fy p q (.slice a m cap) v n m wr) (hk : 1 < w3.heap.size) (hx : gx < w3.heap.size) (hy : gy < w3.heap.size) {j : Nat} (hj : j < m) :
    ∃ g, ∃ b : UInt8, a = some ⟨g, 0, none⟩ ∧ m ≤ cap ∧ wr.cell? ⟨g, j, none⟩ = some (.int .u8 (b.toNat : Int)) ∧ wr.frozen? ⟨g, j, none⟩ = false ∧
      ∀ (c : UInt8) (X : Int), X = (c.toNat : Int) → RT w3 gx gy fx fy p q (.slice a m cap) v n m (wr.setCell ⟨g, j, none⟩ (.int .u8 X)) := by
  obtain ⟨l, hl, ho⟩ := h.ru
  obtain ⟨g, e, hg, hc, hcell, hfr, hset⟩ := own_at hl.symm ho hj
  subst e
  refine ⟨g, l.getD j 0, rfl, hc, hcell, hfr, fun c X hX => ?_⟩
  have hw := Chg.of_wrote (Wrote.set g j wr (.int .u8 X))
  obtain ⟨l2, hl2, ho2⟩ := h.rv
  refine ⟨h.s.chg hw hk hx hy (fun k hk' e => by omega) (fun k hk' e => h.up g rfl (by rw [hk', e])) (fun k hk' e => h.uq g rfl (by rw [hk', e])), ⟨l.set j c, by simpa using hl, hset c X hX⟩, ⟨l2, hl2, own_chg ho2 hw (fun k hk' e => h.uv g rfl (by rw [hk', e]))⟩, h.up, h.uq, h.vp, h.vq, h.uv⟩
theorem RT.turnV {w3 : World} {gx gy : Nat} {fx fy : Nat → Nat} {p q u : Value} {a : Option Addr} {cap n m : Nat} {wr : World} (h : RT w3 gx gy fx fy p q u (.slice a m cap) n m wr) (hk : 1 < w3.heap.size) (hx : gx < w3.heap.size) (hy : gy < w3.heap.size) {j : Nat} (hj : j < m) :
    ∃ g, ∃ b : UInt8, a = some ⟨g, 0, none⟩ ∧ m ≤ cap ∧ wr.cell? ⟨g, j, none⟩ = some (.int .u8 (b.toNat : Int)) ∧ wr.frozen? ⟨g, j, none⟩ = false ∧
      ∀ (c : UInt8) (X : Int), X = (c.toNat : Int) → RT w3 gx gy fx fy p q u (.slice a m cap) n m (wr.setCell ⟨g, j, none⟩ (.int .u8 X)) := by
  obtain ⟨l, hl, ho⟩ := h.rv
  obtain ⟨g, e, hg, hc, hcell, hfr, hset⟩ := own_at hl.symm ho hj
  subst e
  refine ⟨g, l.getD j 0, rfl, hc, hcell, hfr, fun c X hX => ?_⟩
  have hw := Chg.of_wrote (Wrote.set g j wr (.int .u8 X))
  obtain ⟨l2, hl2, ho2⟩ := h.ru
  refine ⟨h.s.chg hw hk hx hy (fun k hk' e => by omega) (fun k hk' e => h.vp g rfl (by rw [hk', e])) (fun k hk' e => h.vq g rfl (by rw [hk', e])), ⟨l2, hl2, own_chg ho2 hw (fun k hk' e => h.uv k hk' (by rw [e]; rfl))⟩, ⟨l.set j c, by simpa using hl, hset c X hX⟩, h.up, h.uq, h.vp, h.vq, h.uv⟩

set_option maxRecDepth 100000 in
set_option maxHeartbeats 4000000 in
theorem reads_walk (vb : Value) (l : List UInt8) (vp : Value) (pl : List Int) (w : World) (hr : Rd w vb l) (hp : RdI .i64 w vp pl) (ht : Tabs w) :
    Calls Tryd.prog 5 #[vb, vp] w fun e w' => e = .returned (.bool true) ∧ Below w.heap.size w w' := by
  obtain ⟨a, cap, rfl, h2, h3, h4, -⟩ := id hr
  obtain ⟨ap, capp, rfl, p2, p3, p4, -⟩ := id hp
  unfold maxLen at h3 p3
  have hk2 := ht.two
  by_cases hlen : l.length ≤ 1000
  · have d1 : decide ((1000 : Int) < (l.length : Int)) = false := decide_eq_false (by omega)
    have g1 : (l.length : Int) ≤ 1000 := by omega
    go_enter Tryd.func5, Tryd.ntmps5
    go_wp2_with fail
    refine (awake_any _ ht).mono ?_
    rintro e w1 ⟨rfl, hB1⟩
    have hr1 := hr.kept hB1
    have ht1 := ht.kept hB1
    have z1 := hB1.size
    go_wp2_with fail
    refine (shake128_any _ l _ hr1 ht1).mono ?_
    rintro e w2 ⟨gx, rfl, hgx, hX2, hB2⟩
    have hr2 := hr1.kept hB2
    have ht2 := ht1.kept hB2
    have z2 := hB2.size
    have lx := hX2.lt
    have hb2 := stepB hB1 hB2
    go_wp2_with fail
    refine (shake256_any _ l _ hr2 ht2).mono ?_
    rintro e w3 ⟨gy, rfl, hgy, hY3, hB3⟩
    have z3 := hB3.size
    have ly := hY3.lt
    have hX3 := hX2.kept hB3
    have hb3 := stepB hb2 hB3
    have hS3 : RS w3 gx gy (abF 168 31 l) (abF 136 31 l) (.slice none 0 0) (.slice none 0 0) 0 w3 := ⟨hX3, hY3, World.ownsRow_nil _ _ _ _, World.ownsRow_nil _ _ _ _, Apart.nil _, Chg.refl _ _, ht2.kept hB3⟩
    have HR : Hid (Rd w (.slice a l.length cap) l) := hr
    have HP : Hid (RdI .i64 w (.slice ap pl.length capp) pl) := hp
    have HB3 : Hid (Below w.heap.size w w3) := hb3
    have hkw : 1 < w3.heap.size := by omega
    have hxw : gx < w3.heap.size := by omega
    have hyw : gy < w3.heap.size := by omega
    have hxw0 : w.heap.size ≤ gx := by omega
    have hyw0 : w.heap.size ≤ gy := by omega
    have hzw : w.heap.size ≤ w3.heap.size := by omega
    have hne : gx ≠ gy := by omega
    have HS3 : Hid _ := hS3
    clear hr hp ht hB1 hr1 ht1 hX2 hB2 hr2 ht2 hb2 hY3 hX3 hB3 hb3 hS3 hgx hgy z1 z2 z3 lx ly
    have HBel : Hid (∀ wr p q n, RS w3 gx gy (abF 168 31 l) (abF 136 31 l) p q n wr → Below w.heap.size w wr) := fun wr p q n h => h.c.below HB3.out hzw fun k _ hk => by rcases hk with rfl | rfl <;> assumption
    generalize hfx : abF 168 31 l = fx at HS3 HBel
    generalize hfy : abF 136 31 l = fy at HS3 HBel
    have HFX : Hid (abF 168 31 l = fx) := hfx
    have HFY : Hid (abF 136 31 l = fy) := hfy
    have hltx : ∀ i, fx i < 18446744073709551616 := fun i => by rw [← hfx]; exact abF_lt _ _ _ i
    have hlty : ∀ i, fy i < 18446744073709551616 := fun i => by rw [← hfy]; exact abF_lt _ _ _ i
    have HLX : Hid _ := hltx
    have HLY : Hid _ := hlty
    clear hfx hfy hltx hlty
    go_wp2
    go_loopw [8, 9, 10] (fun p q i wr => ∃ j n : Nat, j ≤ 20 ∧ j ≤ pl.length ∧ n ≤ 1000 * j ∧ i = .int .i64 j ∧ RS w3 gx gy fx fy p q n wr) (fun _ _ i _ => 20 - (intOf i).toNat)
    case atStart => exact ⟨0, 0, by omega, by omega, by omega, rfl, HS3.out⟩
    case round =>
      obtain ⟨j, n, hj, hjp, hn, rfl, hS⟩ := hrel
      clear HS3
      by_cases hlt : j < pl.length ∧ j < 20
      · obtain ⟨hlt1, hlt2⟩ := hlt
        have e1 : decide ((j : Int) < (pl.length : Int)) = true := decide_eq_true (by omega)
        have e2 : decide ((j : Int) < 20) = true := decide_eq_true (by omega)
        have f1 : (j : Int) < pl.length := by omega
        have f2 : (j : Int) < 20 := by omega
        have hbw := HBel.out _ _ _ _ hS
        obtain ⟨b, off, cp, ev, -, hc, -⟩ := (HP.out.kept hbw).cellAt (i := j) hlt1
        simp only [Value.slice.injEq] at ev
        obtain ⟨rfl, -, rfl⟩ := ev
        generalize pl.getD j 0 = N at hc
        by_cases hN : N ≤ 1000
        · have e3 : decide ((1000 : Int) < N) = false := decide_eq_false (by omega)
          obtain ⟨m, hm⟩ : ∃ m : Nat, m = N.toNat := ⟨_, rfl⟩
          have hmb : m ≤ 1000 := by omega
          have HM : Hid (m = N.toNat) := hm
          clear hm
          have zr := hS.c.size
          have lp := fun g h => (hS.rp.lt g h).2
          have lq := fun g h => (hS.rq.lt g h).2
          go_wp2_with fail
          refine (read_any gx fx HLX.out 168 n (by omega) (by omega) N m HM.out (by omega) _ hS.x (by omega) hS.t).mono ?_
          rintro e w4 ⟨vu, rfl, hOu, hX4, hC4, ht4⟩
          have hY4 := hS.y.chg hC4 (Ne.symm hne)
          have hp4 := own_past hS.rp hC4 hxw
          have hq4 := own_past hS.rq hC4 hxw
          have hc4 := hS.c.step hC4 (fun i _ h => .inl h)
          have z4 := hC4.size
          have lu4 := fun g h => (hOu.lt g h).2
          go_wp2_with fail
          refine (read_any gy fy HLY.out 136 n (by omega) (by omega) N m HM.out (by omega) _ hY4 (by omega) ht4).mono ?_
          rintro e w5 ⟨vv, rfl, hOv, hY5, hC5, ht5⟩
          have hX5 := hX4.chg hC5 hne
          have hp5 := own_past hp4 hC5 hyw
          have hq5 := own_past hq4 hC5 hyw
          have hOu5 := own_past hOu hC5 (by omega)
          have hc5 := hc4.step hC5 (fun i _ h => .inr h)
          have z5 := hC5.size
          have hap := hS.ap
          have hRu := Rd.of_row hOu5
          have hLp := otL_length fx 168 n
          have hLq := otL_length fy 136 n
          have hLu := pcL_length fx 168 n m
          have hLv := pcL_length fy 136 n m
          clear hS hC4 hC5 hp4 hq4 hc4 ht4 hX4 hY4 hOu
          go_wp2_with (at_builtin; go_must (refine wpList_append_base (base := w3.heap.size) rfl _ _ 22 rfl 5 Tryd.underlying22 info5 _ _ rfl hp5 (by omega) _ _ rfl hRu (by omega) ?_))
          intro p6 w6 hp6' hg6 hn6
          have hp6 : w6.ownsRow w3.heap.size 5 1 p6 (otL fx 168 (n + m)).length ((otL fx 168 (n + m)).map bv) := by
            rw [otL_length, ← otL_pcL, List.map_append]
            exact hp6'
          clear hp6'
          have c6 := Chg.of_grown hg6
          have lp' : ∀ g, u8.ownBlock = some g → w3.heap.size ≤ g ∧ g < wr.heap.size := fun g h => ⟨(hp5.lt g h).1, lp g h⟩
          have lq' : ∀ g, u9.ownBlock = some g → w3.heap.size ≤ g ∧ g < wr.heap.size := fun g h => ⟨(hq5.lt g h).1, lq g h⟩
          have hX6 := hX5.chg c6 (fun h => by have := lp' gx h.symm; omega)
          have hY6 := hY5.chg c6 (fun h => by have := lp' gy h.symm; omega)
          have hq6 := own_chg hq5 c6 (fun g h h' => hap g h'.symm h)
          have hOu6 := own_chg hOu5 c6 (fun g h h' => by have := lp' g h'.symm; have := (hOu5.lt g h).1; omega)
          have hOv6 := own_chg hOv c6 (fun g h h' => by have := lp' g h'.symm; have := (hOv.lt g h).1; omega)
          have ap6 : Apart p6 u9 := Apart.near hn6 hap (fun g h => (hq5.lt g h).2)
          have au6 : Apart p6 vu := Apart.near hn6 (Apart.lt (B := wr.heap.size) (fun g h => (lp' g h).2) (fun g h => (hOu5.lt g h).1)) (fun g h => (hOu5.lt g h).2)
          have av6 : Apart p6 vv := Apart.near hn6 (Apart.lt (B := w4.heap.size) (fun g h => by have := lp' g h; omega) (fun g h => (hOv.lt g h).1)) (fun g h => (hOv.lt g h).2)
          have ht6 := ht5.chg c6 (fun k hk h => by have := lp' k h.symm; omega)
          have hc6 := hc5.step c6 (fun k hk h => by have := lp' k h.symm; omega)
          have z6 := c6.size
          have hRv := Rd.of_row hOv6
          have uv : Apart vu vv := Apart.lt (B := w4.heap.size) (fun g h => ?_) (fun g h => (hOv.lt g h).1)
          rotate_left
          · exact lu4 g h
          clear hp5 hq5 hX5 hY5 hg6 hn6 ht5 hc5 hOu5 hOv hRu hap
          go_wp2_with (at_builtin; go_must (refine wpList_append_base (base := w3.heap.size) rfl _ _ 22 rfl 5 Tryd.underlying22 info5 _ _ rfl hq6 (by omega) _ _ rfl hRv (by omega) ?_))
          intro q7 w7 hq7' hg7 hn7
          have hq7 : w7.ownsRow w3.heap.size 5 1 q7 (otL fy 136 (n + m)).length ((otL fy 136 (n + m)).map bv) := by
            rw [otL_length, ← otL_pcL, List.map_append]
            exact hq7'
          clear hq7'
          have c7 := Chg.of_grown hg7
          have hX7 := hX6.chg c7 (fun h => by have := lq' gx h.symm; omega)
          have hY7 := hY6.chg c7 (fun h => by have := lq' gy h.symm; omega)
          have hp7 := own_chg hp6 c7 (fun g h h' => ap6 g h h'.symm)
          have hOu7 := own_chg hOu6 c7 (fun g h h' => by have := lq' g h'.symm; have := (hOu6.lt g h).1; omega)
          have hOv7 := own_chg hOv6 c7 (fun g h h' => by have := lq' g h'.symm; have := (hOv6.lt g h).1; omega)
          have ap7 : Apart q7 p6 := Apart.near hn7 ap6.symm (fun g h => (hp6.lt g h).2)
          have au7 : Apart q7 vu := Apart.near hn7 (Apart.lt (B := wr.heap.size) (fun g h => (lq' g h).2) (fun g h => (hOu6.lt g h).1)) (fun g h => (hOu6.lt g h).2)
          have av7 : Apart q7 vv := Apart.near hn7 (Apart.lt (B := w4.heap.size) (fun g h => by have := lq' g h; omega) (fun g h => (hOv6.lt g h).1)) (fun g h => (hOv6.lt g h).2)
          have ht7 := ht6.chg c7 (fun k hk h => by have := lq' k h.symm; omega)
          have hc7 := hc6.step c7 (fun k hk h => by have := lq' k h.symm; omega)
          obtain ⟨au, cu, rfl, -, -, -, -⟩ := id (Rd.of_row hOu7)
          obtain ⟨av, cv, rfl, -, -, -, -⟩ := id (Rd.of_row hOv7)
          rw [hLu] at hOu7 au6 au7 uv ⊢
          rw [hLv] at hOv7 av6 av7 uv ⊢
          have hT7 : RT w3 gx gy fx fy p6 q7 (.slice au m cu) (.slice av m cv) (n + m) m w7 := ⟨⟨hX7, hY7, hp7, hq7, ap7.symm, hc7, ht7⟩, ⟨_, hLu, own_mono (by rw [hLu]; exact hOu7) (by omega)⟩, ⟨_, hLv, own_mono (by rw [hLv]; exact hOv7) (by omega)⟩, au6.symm, au7.symm, av6.symm, av7.symm, uv⟩
          have HT7 : Hid _ := hT7
          clear hp6 hq6 hq7 hX6 hY6 hg7 hn7 ht6 hc6 hOu6 hOv6 hRv hX7 hY7 hp7 hOu7 hOv7 ap6 ap7 au6 au7 av6 av7 uv hT7 ht7 hc7 c6 c7 lp lq lp' lq' lu4 hLp hLq hLu hLv z4 z5 z6 zr hc hbw
          go_wp2
          go_loopw [14] (fun k wr => ∃ t : Nat, t ≤ m ∧ k = .int .i64 t ∧ RT w3 gx gy fx fy p6 q7 (.slice au m cu) (.slice av m cv) (n + m) m wr) (fun k _ => m - (intOf k).toNat)
          case atStart => exact ⟨0, by omega, rfl, HT7.out⟩
          case round =>
            obtain ⟨t, htm, rfl, hT⟩ := hrel
            clear HT7
            by_cases htl : t < m
            · have t1 : decide ((t : Int) < (m : Int)) = true := decide_eq_true (by omega)
              have t2 : (t : Int) < m := by omega
              obtain ⟨gu, bu, rfl, hmu, hcu, hfu, hsu⟩ := hT.turnU hkw hxw hyw htl
              have hT2 := hsu (bu ^^^ 255) (bits .xor .u8 ((bu.toNat : Nat) : Int) 255) (byte_xor bu 255)
              obtain ⟨gv, bw, rfl, hmv, hcv, hfv, hsv⟩ := hT2.turnV hkw hxw hyw htl
              have hT3 := hsv (bw ^^^ 255) (bits .xor .u8 ((bw.toNat : Nat) : Int) 255) (byte_xor bw 255)
              have HT3 : Hid _ := hT3
              clear hT hT2 hT3 hsu hsv
              go_wp2
              go_roundw
              case rel => exact ⟨t + 1, by omega, by go_num, HT3.out⟩
              case measure => simp [intOf]; omega
            · have t1 : decide ((t : Int) < (m : Int)) = false := decide_eq_false (by omega)
              have t2 : (m : Int) ≤ t := by omega
              have hS2 := hT.s
              clear hT
              go_wp2
              go_roundw
              case rel => exact ⟨j + 1, n + m, by omega, by omega, by omega, by go_num, hS2⟩
              case measure => simp [intOf]; omega
        · have e3 : decide ((1000 : Int) < N) = true := decide_eq_true (by omega)
          have g3 : (1000 : Int) < N := by omega
          go_wp2
          go_ret
          exact ⟨rfl, hbw⟩
      · have hbw := HBel.out _ _ _ _ hS
        have hrw := HR.out.kept hbw
        have hRp := Rd.of_row hS.rp
        have hRq := Rd.of_row hS.rq
        obtain ⟨au, cu, rfl, -, -, -, -⟩ := id hRp
        obtain ⟨av, cv, rfl, -, -, -, -⟩ := id hRq
        have hLp := otL_length fx 168 n
        have hLq := otL_length fy 136 n
        rw [hLp] at hRp ⊢
        rw [hLq] at hRq ⊢
        have hcase : (decide ((j : Int) < (pl.length : Int)) = false ∧ (pl.length : Int) ≤ j) ∨ (decide ((j : Int) < (pl.length : Int)) = true ∧ (j : Int) < (pl.length : Int) ∧ decide ((j : Int) < 20) = false ∧ (20 : Int) ≤ j) := by
          by_cases h0 : j < pl.length
          · exact .inr ⟨decide_eq_true (by omega), by omega, decide_eq_false (by omega), by omega⟩
          · exact .inl ⟨decide_eq_false (by omega), by omega⟩
        clear hS hLp hLq
        have HW : Hid _ := hbw
        rcases hcase with ⟨q1, q2⟩ | ⟨q1, q2, q3, q4⟩
        all_goals
          go_wp2_with fail
          refine wpG_begin (by kernel_rfl) ?_
          refine wpG_take (i := 0) (oi := { dst := some 75, op := Op.move (Operand.tmp 8), type := 22, pos := "law.go:77", after := #[], guard := none }) (v := ?_) rfl (by kernel_rfl) (by kernel_rfl) (by kernel_rfl) (by rfl) ?_ ?_
          rotate_left
          · intro W hW; first | (go_simp; done) | (go_simp; with_reducible rfl)
          try simp only [Act.put, List.setIfInBounds_toArray, List.set_cons_zero, List.set_cons_succ]
          refine wpG_take (i := 1) (oi := { dst := some 76, op := Op.call { callee := Callee.builtin Builtin.len, args := #[Operand.tmp 75], argTypes := #[22] }, type := 3, pos := "law.go:77", after := #[{ on := 0, ground := Ground.data }], guard := none }) (v := ?_) rfl (by kernel_rfl) (by kernel_rfl) (by kernel_rfl) (by rfl) ?_ ?_
          rotate_left
          · intro W hW; first | (go_simp; done) | (go_simp; with_reducible rfl)
          try simp only [Act.put, List.setIfInBounds_toArray, List.set_cons_zero, List.set_cons_succ]
          refine wpG_take (i := 2) (oi := { dst := some 77, op := Op.move (Operand.tmp 9), type := 22, pos := "law.go:77", after := #[], guard := none }) (v := ?_) rfl (by kernel_rfl) (by kernel_rfl) (by kernel_rfl) (by rfl) ?_ ?_
          rotate_left
          · intro W hW; first | (go_simp; done) | (go_simp; with_reducible rfl)
          try simp only [Act.put, List.setIfInBounds_toArray, List.set_cons_zero, List.set_cons_succ]
          refine wpG_take (i := 3) (oi := { dst := some 78, op := Op.call { callee := Callee.builtin Builtin.len, args := #[Operand.tmp 77], argTypes := #[22] }, type := 3, pos := "law.go:77", after := #[{ on := 2, ground := Ground.data }], guard := none }) (v := ?_) rfl (by kernel_rfl) (by kernel_rfl) (by kernel_rfl) (by rfl) ?_ ?_
          rotate_left
          · intro W hW; first | (go_simp; done) | (go_simp; with_reducible rfl)
          try simp only [Act.put, List.setIfInBounds_toArray, List.set_cons_zero, List.set_cons_succ]
          refine wpG_take (i := 4) (oi := { dst := some 79, op := Op.binOp BinOp.eql 3 (Operand.tmp 76) (Operand.tmp 78) 3, type := 4, pos := "law.go:77", after := #[{ on := 1, ground := Ground.data }, { on := 3, ground := Ground.data }], guard := none }) (v := ?_) rfl (by kernel_rfl) (by kernel_rfl) (by kernel_rfl) (by rfl) ?_ ?_
          rotate_left
          · intro W hW; first | (go_simp; done) | (go_simp; with_reducible rfl)
          try simp only [Act.put, List.setIfInBounds_toArray, List.set_cons_zero, List.set_cons_succ]
          refine wpG_take (i := 5) (oi := { dst := some 80, op := Op.move (Operand.tmp 79), type := 4, pos := "law.go:77", after := #[{ on := 4, ground := Ground.data }], guard := none }) (v := ?_) rfl (by kernel_rfl) (by kernel_rfl) (by kernel_rfl) (by rfl) ?_ ?_
          rotate_left
          · intro W hW; first | (go_simp; done) | (go_simp; with_reducible rfl)
          try simp only [Act.put, List.setIfInBounds_toArray, List.set_cons_zero, List.set_cons_succ]
          refine wpG_take (i := 6) (oi := { dst := some 81, op := Op.move (Operand.tmp 8), type := 22, pos := "law.go:77", after := #[{ on := 5, ground := Ground.guard }], guard := some (5, true) }) (v := ?_) rfl (by kernel_rfl) (by kernel_rfl) (by kernel_rfl) (by rfl) ?_ ?_
          rotate_left
          · intro W hW; first | (go_simp; done) | (go_simp; with_reducible rfl)
          try simp only [Act.put, List.setIfInBounds_toArray, List.set_cons_zero, List.set_cons_succ]
          refine wpG_take (i := 7) (oi := { dst := some 82, op := Op.convert 22 9 (Operand.tmp 81), type := 9, pos := "law.go:77", after := #[{ on := 6, ground := Ground.data }, { on := 5, ground := Ground.guard }], guard := some (5, true) }) (v := ?_) rfl (by kernel_rfl) (by kernel_rfl) (by kernel_rfl) (by rfl) ?_ ?_
          rotate_left
          · intro W hW; have hcv := convS (hRp.drew.kept hW); first | (go_simp; done) | (go_simp; with_reducible rfl)
          try simp only [Act.put, List.setIfInBounds_toArray, List.set_cons_zero, List.set_cons_succ]
          refine wpG_take (i := 8) (oi := { dst := some 83, op := Op.move (Operand.tmp 0), type := 22, pos := "law.go:77", after := #[{ on := 5, ground := Ground.guard }], guard := some (5, true) }) (v := ?_) rfl (by kernel_rfl) (by kernel_rfl) (by kernel_rfl) (by rfl) ?_ ?_
          rotate_left
          · intro W hW; first | (go_simp; done) | (go_simp; with_reducible rfl)
          try simp only [Act.put, List.setIfInBounds_toArray, List.set_cons_zero, List.set_cons_succ]
          refine wpG_take (i := 9) (oi := { dst := some 84, op := Op.move (Operand.tmp 8), type := 22, pos := "law.go:77", after := #[{ on := 5, ground := Ground.guard }], guard := some (5, true) }) (v := ?_) rfl (by kernel_rfl) (by kernel_rfl) (by kernel_rfl) (by rfl) ?_ ?_
          rotate_left
          · intro W hW; first | (go_simp; done) | (go_simp; with_reducible rfl)
          try simp only [Act.put, List.setIfInBounds_toArray, List.set_cons_zero, List.set_cons_succ]
          refine wpG_take (i := 10) (oi := { dst := some 85, op := Op.call { callee := Callee.builtin Builtin.len, args := #[Operand.tmp 84], argTypes := #[22] }, type := 3, pos := "law.go:77", after := #[{ on := 9, ground := Ground.data }, { on := 5, ground := Ground.guard }], guard := some (5, true) }) (v := ?_) rfl (by kernel_rfl) (by kernel_rfl) (by kernel_rfl) (by rfl) ?_ ?_
          rotate_left
          · intro W hW; first | (go_simp; done) | (go_simp; with_reducible rfl)
          try simp only [Act.put, List.setIfInBounds_toArray, List.set_cons_zero, List.set_cons_succ]
          refine wpG_do (i := 11) (o := { dst := some 86, op := Op.call { callee := Callee.value (Operand.func 19), args := #[Operand.tmp 83, Operand.tmp 85], argTypes := #[22, 3] }, type := 22, pos := "law.go:77", after := #[{ on := 8, ground := Ground.data }, { on := 10, ground := Ground.data }, { on := 5, ground := Ground.chain }, { on := 5, ground := Ground.guard }], guard := some (5, true) }) (by kernel_rfl) rfl (by rfl) fun K hK => ?_
          go_simp
          refine (shake128R_any _ l (by omega) n (by omega) _ hrw.drew).mono ?_
          rintro e w2 ⟨v2, rfl, hR2, hB2⟩
          rw [HFX.out] at hR2
          refine hK.out _ _ hB2 ?_
          clear hK K
          have hrw2 := hrw.drew.kept hB2
          have hRq2 := hRq.drew.kept hB2
          have hb2 := stepB HW.out.drew hB2
          try simp only [Act.put, List.setIfInBounds_toArray, List.set_cons_zero, List.set_cons_succ]
          refine wpG_take (i := 12) (oi := { dst := some 87, op := Op.convert 22 9 (Operand.tmp 86), type := 9, pos := "law.go:77", after := #[{ on := 11, ground := Ground.data }, { on := 5, ground := Ground.guard }], guard := some (5, true) }) (v := ?_) rfl (by kernel_rfl) (by kernel_rfl) (by kernel_rfl) (by rfl) ?_ ?_
          rotate_left
          · intro W hW; have hcv := convS (hR2.kept hW); first | (go_simp; done) | (go_simp; with_reducible rfl)
          try simp only [Act.put, List.setIfInBounds_toArray, List.set_cons_zero, List.set_cons_succ]
          refine wpG_take (i := 13) (oi := { dst := some 88, op := Op.binOp BinOp.eql 9 (Operand.tmp 82) (Operand.tmp 87) 9, type := 4, pos := "law.go:77", after := #[{ on := 7, ground := Ground.data }, { on := 12, ground := Ground.data }, { on := 5, ground := Ground.guard }], guard := some (5, true) }) (v := ?_) rfl (by kernel_rfl) (by kernel_rfl) (by kernel_rfl) (by rfl) ?_ ?_
          rotate_left
          · intro W hW; first | (go_simp; done) | (go_simp; with_reducible rfl)
          try simp only [Act.put, List.setIfInBounds_toArray, List.set_cons_zero, List.set_cons_succ]
          refine wpG_take (i := 14) (oi := { dst := some 89, op := Op.pick (Operand.tmp 80) (Operand.tmp 88) (Operand.const (Value.bool false)), type := 4, pos := "law.go:77", after := #[{ on := 5, ground := Ground.data }, { on := 13, ground := Ground.data }], guard := none }) (v := ?_) rfl (by kernel_rfl) (by kernel_rfl) (by kernel_rfl) (by rfl) ?_ ?_
          rotate_left
          · intro W hW; first | (go_simp; done) | (go_simp; with_reducible rfl)
          try simp only [Act.put, List.setIfInBounds_toArray, List.set_cons_zero, List.set_cons_succ]
          refine wpG_take (i := 15) (oi := { dst := some 90, op := Op.move (Operand.tmp 89), type := 4, pos := "law.go:77", after := #[{ on := 14, ground := Ground.data }, { on := 11, ground := Ground.chain }], guard := none }) (v := ?_) rfl (by kernel_rfl) (by kernel_rfl) (by kernel_rfl) (by rfl) ?_ ?_
          rotate_left
          · intro W hW; first | (go_simp; done) | (go_simp; with_reducible rfl)
          try simp only [Act.put, List.setIfInBounds_toArray, List.set_cons_zero, List.set_cons_succ]
          refine wpG_take (i := 16) (oi := { dst := some 91, op := Op.move (Operand.tmp 9), type := 22, pos := "law.go:77", after := #[{ on := 15, ground := Ground.guard }], guard := some (15, true) }) (v := ?_) rfl (by kernel_rfl) (by kernel_rfl) (by kernel_rfl) (by rfl) ?_ ?_
          rotate_left
          · intro W hW; first | (go_simp; done) | (go_simp; with_reducible rfl)
          try simp only [Act.put, List.setIfInBounds_toArray, List.set_cons_zero, List.set_cons_succ]
          refine wpG_take (i := 17) (oi := { dst := some 92, op := Op.convert 22 9 (Operand.tmp 91), type := 9, pos := "law.go:77", after := #[{ on := 16, ground := Ground.data }, { on := 15, ground := Ground.guard }], guard := some (15, true) }) (v := ?_) rfl (by kernel_rfl) (by kernel_rfl) (by kernel_rfl) (by rfl) ?_ ?_
          rotate_left
          · intro W hW; have hcv := convS (hRq2.kept hW); first | (go_simp; done) | (go_simp; with_reducible rfl)
          try simp only [Act.put, List.setIfInBounds_toArray, List.set_cons_zero, List.set_cons_succ]
          refine wpG_take (i := 18) (oi := { dst := some 93, op := Op.move (Operand.tmp 0), type := 22, pos := "law.go:77", after := #[{ on := 15, ground := Ground.guard }], guard := some (15, true) }) (v := ?_) rfl (by kernel_rfl) (by kernel_rfl) (by kernel_rfl) (by rfl) ?_ ?_
          rotate_left
          · intro W hW; first | (go_simp; done) | (go_simp; with_reducible rfl)
          try simp only [Act.put, List.setIfInBounds_toArray, List.set_cons_zero, List.set_cons_succ]
          refine wpG_take (i := 19) (oi := { dst := some 94, op := Op.move (Operand.tmp 9), type := 22, pos := "law.go:77", after := #[{ on := 15, ground := Ground.guard }], guard := some (15, true) }) (v := ?_) rfl (by kernel_rfl) (by kernel_rfl) (by kernel_rfl) (by rfl) ?_ ?_
          rotate_left
          · intro W hW; first | (go_simp; done) | (go_simp; with_reducible rfl)
          try simp only [Act.put, List.setIfInBounds_toArray, List.set_cons_zero, List.set_cons_succ]
          refine wpG_take (i := 20) (oi := { dst := some 95, op := Op.call { callee := Callee.builtin Builtin.len, args := #[Operand.tmp 94], argTypes := #[22] }, type := 3, pos := "law.go:77", after := #[{ on := 19, ground := Ground.data }, { on := 15, ground := Ground.guard }], guard := some (15, true) }) (v := ?_) rfl (by kernel_rfl) (by kernel_rfl) (by kernel_rfl) (by rfl) ?_ ?_
          rotate_left
          · intro W hW; first | (go_simp; done) | (go_simp; with_reducible rfl)
          try simp only [Act.put, List.setIfInBounds_toArray, List.set_cons_zero, List.set_cons_succ]
          refine wpG_do (i := 21) (o := { dst := some 96, op := Op.call { callee := Callee.value (Operand.func 20), args := #[Operand.tmp 93, Operand.tmp 95], argTypes := #[22, 3] }, type := 22, pos := "law.go:77", after := #[{ on := 18, ground := Ground.data }, { on := 20, ground := Ground.data }, { on := 15, ground := Ground.chain }, { on := 15, ground := Ground.guard }], guard := some (15, true) }) (by kernel_rfl) rfl (by rfl) fun K hK => ?_
          go_simp
          refine (shake256R_any _ l (by omega) n (by omega) _ hrw2).mono ?_
          rintro e w3 ⟨v3, rfl, hR3, hB3⟩
          rw [HFY.out] at hR3
          refine hK.out _ _ hB3 ?_
          clear hK K
          have hb3 := stepB hb2 hB3
          try simp only [Act.put, List.setIfInBounds_toArray, List.set_cons_zero, List.set_cons_succ]
          refine wpG_take (i := 22) (oi := { dst := some 97, op := Op.convert 22 9 (Operand.tmp 96), type := 9, pos := "law.go:77", after := #[{ on := 21, ground := Ground.data }, { on := 15, ground := Ground.guard }], guard := some (15, true) }) (v := ?_) rfl (by kernel_rfl) (by kernel_rfl) (by kernel_rfl) (by rfl) ?_ ?_
          rotate_left
          · intro W hW; have hcv := convS (hR3.kept hW); first | (go_simp; done) | (go_simp; with_reducible rfl)
          try simp only [Act.put, List.setIfInBounds_toArray, List.set_cons_zero, List.set_cons_succ]
          refine wpG_take (i := 23) (oi := { dst := some 98, op := Op.binOp BinOp.eql 9 (Operand.tmp 92) (Operand.tmp 97) 9, type := 4, pos := "law.go:77", after := #[{ on := 17, ground := Ground.data }, { on := 22, ground := Ground.data }, { on := 15, ground := Ground.guard }], guard := some (15, true) }) (v := ?_) rfl (by kernel_rfl) (by kernel_rfl) (by kernel_rfl) (by rfl) ?_ ?_
          rotate_left
          · intro W hW; first | (go_simp; done) | (go_simp; with_reducible rfl)
          try simp only [Act.put, List.setIfInBounds_toArray, List.set_cons_zero, List.set_cons_succ]
          refine wpG_take (i := 24) (oi := { dst := some 99, op := Op.pick (Operand.tmp 90) (Operand.tmp 98) (Operand.const (Value.bool false)), type := 4, pos := "law.go:77", after := #[{ on := 15, ground := Ground.data }, { on := 23, ground := Ground.data }], guard := none }) (v := ?_) rfl (by kernel_rfl) (by kernel_rfl) (by kernel_rfl) (by rfl) ?_ ?_
          rotate_left
          · intro W hW; first | (go_simp; done) | (go_simp; with_reducible rfl)
          try simp only [Act.put, List.setIfInBounds_toArray, List.set_cons_zero, List.set_cons_succ]
          refine wpG_take (i := 25) (oi := { dst := some 4, op := Op.assign (Operand.tmp 99), type := 4, pos := "law.go:77", after := #[{ on := 24, ground := Ground.data }, { on := 21, ground := Ground.chain }, { on := 0, ground := Ground.phase }, { on := 1, ground := Ground.phase }, { on := 2, ground := Ground.phase }, { on := 3, ground := Ground.phase }, { on := 4, ground := Ground.phase }, { on := 5, ground := Ground.phase }, { on := 6, ground := Ground.phase }, { on := 7, ground := Ground.phase }, { on := 8, ground := Ground.phase }, { on := 9, ground := Ground.phase }, { on := 10, ground := Ground.phase }, { on := 11, ground := Ground.phase }, { on := 12, ground := Ground.phase }, { on := 13, ground := Ground.phase }, { on := 14, ground := Ground.phase }, { on := 15, ground := Ground.phase }, { on := 16, ground := Ground.phase }, { on := 17, ground := Ground.phase }, { on := 18, ground := Ground.phase }, { on := 19, ground := Ground.phase }, { on := 20, ground := Ground.phase }, { on := 21, ground := Ground.phase }, { on := 22, ground := Ground.phase }, { on := 23, ground := Ground.phase }, { on := 24, ground := Ground.phase }], guard := none }) (v := ?_) rfl (by kernel_rfl) (by kernel_rfl) (by kernel_rfl) (by rfl) ?_ ?_
          rotate_left
          · intro W hW; first | (go_simp; done) | (go_simp; with_reducible rfl)
          try simp only [Act.put, List.setIfInBounds_toArray, List.set_cons_zero, List.set_cons_succ]
          refine wpG_done (by kernel_rfl) ?_
          go_wp2
          go_ret
          exact ⟨rfl, hb3⟩
  · have d1 : decide ((1000 : Int) < (l.length : Int)) = true := decide_eq_true (by omega)
    have g1 : (1000 : Int) < l.length := by omega
    go_enter Tryd.func5, Tryd.ntmps5
    go_wp2_with fail
    refine (awake_any _ ht).mono ?_
    rintro e w1 ⟨rfl, hB1⟩
    go_wp2
    go_ret
    exact ⟨rfl, hB1⟩
end Go.Proofs.YthajkimmnceoiaaDoor
