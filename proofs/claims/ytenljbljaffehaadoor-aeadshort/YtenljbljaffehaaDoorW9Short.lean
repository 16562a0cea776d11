/- What the law AeadShort answers at every input: the walk. -/
import Derived.Test.YtenljbljaffehaaDoorA09e
namespace Go.Proofs.YtenljbljaffehaaDoor
open Go.ChangeShapes Go.WideShapes Go.ChangeAt Go.RowKit
set_option linter.unusedSimpArgs false
set_option linter.unusedVariables false

theorem opA_err {k n a s : List UInt8} (h : fitN k n) (hs : ¬ s.length < 16) : (opA k n a s).2 ≠ 13 := by
  unfold opA
  rw [if_pos h, if_neg hs]
  split <;> simp
set_option maxRecDepth 100000 in
set_option maxHeartbeats 4000000 in
theorem short_walk (vk vn vb : Value) (k n b : List UInt8) (w : World) (hk : Rd w vk k) (hn : Rd w vn n) (hb : Rd w vb b) (hp : PlT w) (ht : KpT w) :
    Calls Tryd.prog 7 #[vk, vn, vb] w fun e w' => e = .returned (.bool true) ∧ Below w.heap.size w w' := by
  obtain ⟨ak, ck, rfl, -, hmk, -, -⟩ := id hk
  obtain ⟨an, cn, rfl, -, hmn, -, -⟩ := id hn
  obtain ⟨ab, cb, rfl, -, hmb, -, -⟩ := id hb
  unfold maxLen at hmk hmn hmb
  by_cases hbl : b.length ≤ 100
  · have d0 : decide ((100 : Int) < (b.length : Int)) = false := decide_eq_false (by omega)
    have HL : Hid (b.length ≤ 3000000) := by show _ ≤ _; omega
    have HBL : Hid (b.length ≤ 100) := hbl
    clear hbl
    go_enter Tryd.func7, Tryd.ntmps7
    go_wp2_with fail
    refine (awake_any _ hp ht).mono ?_
    rintro e w1 ⟨rfl, b1⟩
    have HK : Hid (Rd w1 (.slice ak k.length ck) k) := hk.kept b1
    have HN : Hid (Rd w1 (.slice an n.length cn) n) := hn.kept b1
    have HB : Hid (Rd w1 (.slice ab b.length cb) b) := hb.kept b1
    have HP : Hid (PlT w1) := hp.kept b1
    have HT : Hid (KpT w1) := ht.kept b1
    have HB1 : Hid (Below w.heap.size w w1) := b1
    clear hk hn hp ht hb b1
    go_wp2_with fail
    refine (aopen_all _ _ _ _ k n b b HL.out HL.out _ HP.out HT.out HK.out HN.out HB.out HB.out).mono ?_
    rintro e w2 ⟨v2, rfl, hN2⟩
    have HB2 : Hid (Below w.heap.size w w2) := stepB HB1.out hN2.2
    clear hN2
    by_cases hf : fitN k n
    · have d1 : ((k.length : Int) != 32) = false := by have := hf.1; simp; omega
      have d2 : ((n.length : Int) != 12) = false := by have := hf.2; simp; omega
      by_cases h16 : b.length < 16
      · rw [opA_short hf _ _ h16]
        have d3 : decide ((b.length : Int) < 16) = true := decide_eq_true (by omega)
        clear hf h16
        go_wp2
        go_ret
        exact ⟨rfl, HB2.out⟩
      · have he := opA_err (a := b) hf h16
        generalize (opA k n b b).2 = E at he
        have d4 : (E == 13) = false := by simpa using he
        have d3 : decide ((b.length : Int) < 16) = false := decide_eq_false (by omega)
        clear hf h16 he
        go_wp2
        go_ret
        exact ⟨rfl, HB2.out⟩
    · rw [opA_no hf]
      by_cases h1 : k.length = 32
      · have d1 : ((k.length : Int) != 32) = false := by simp; omega
        have d2 : ((n.length : Int) != 12) = true := by simp; intro h; exact hf ⟨h1, by omega⟩
        clear hf h1
        go_wp2
        go_ret
        exact ⟨rfl, HB2.out⟩
      · have d1 : ((k.length : Int) != 32) = true := by simp; omega
        clear hf h1
        go_wp2
        go_ret
        exact ⟨rfl, HB2.out⟩
  · have d0 : decide ((100 : Int) < (b.length : Int)) = true := decide_eq_true (by omega)
    go_enter Tryd.func7, Tryd.ntmps7
    go_wp2_with fail
    refine (awake_any _ hp ht).mono ?_
    rintro e w1 ⟨rfl, b1⟩
    go_wp2
    go_ret
    exact ⟨rfl, b1⟩
end Go.Proofs.YtenljbljaffehaaDoor
