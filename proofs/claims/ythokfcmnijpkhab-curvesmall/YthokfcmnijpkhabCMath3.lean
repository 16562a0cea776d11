/- Nine times nine, reckoned by the kernel. No program's text is named. -/
import Derived.Test.YthokfcmnijpkhabCMath
namespace Go.Proofs.Ythokfcmnijpkhab
set_option linter.unusedSimpArgs false
theorem ldX_val (w : FF) (bit : Nat → Bool) : (ldX w bit).val = (ldN w bit 255).x.val * pm 57896044618658097711785492504343953926634992332820282019728792003956564819949 255 (ldN w bit 255).z.val pTwo % 57896044618658097711785492504343953926634992332820282019728792003956564819949 := by
  rw [pm_eq _ _ _ _ (by decide +kernel)]
  unfold ldX
  rw [fmul_val]
  rfl
/-- 9, and noughts. -/
def key9 : List UInt8 := 9 :: List.replicate 31 0
theorem nine_nine : (ldX (fv 9) (bitB (clL key9))).val = 54815864700279561125610391355931320566748822376190344121911385527384361806914 := by
  rw [ldX_val]
  decide +kernel
theorem key9_dec : decN key9 = 9 := by decide +kernel
theorem key9_length : key9.length = 32 := by decide
theorem scN_fv {k u : List UInt8} {n : Nat} (h : decN u = n) : scN k u = (ldX (fv n) (bitB (clL k))).val := by
  subst h
  rfl
theorem bytes_of {n : Nat} (h : n = 54815864700279561125610391355931320566748822376190344121911385527384361806914) : (enL n).getD 0 0 = 66 ∧ (enL n).getD 31 0 = 121 := by
  subst h
  decide +kernel
theorem nine_bytes : (enL (scN key9 key9)).getD 0 0 = 66 ∧ (enL (scN key9 key9)).getD 31 0 = 121 := bytes_of ((scN_fv key9_dec).trans nine_nine)
/-! ### Each one's secret is the other one's -/
theorem ldK_even (bit : Nat → Bool) (h : bit 0 = false) : ldK bit 255 % 2 = 0 := by
  have e : ldK bit 255 = 2 * ldK bit 254 + (if bit 0 then 1 else 0) := rfl
  rw [e, h]
  simp
theorem scN_agree {a b p q : List UInt8} (ha : bitB (clL a) 254 = true) (hb : bitB (clL b) 254 = true) (ha0 : bitB (clL a) 0 = false) (hb0 : bitB (clL b) 0 = false) (hp : decN p % pN = scN a key9 % pN) (hq : decN q % pN = scN b key9 % pN) : scN a q = scN b p := by
  have e1 : fv (decN p) = ldX 9 (bitB (clL a)) := by
    rw [fv_eq.2 hp, scN_fv key9_dec, fv_self]
    rfl
  have e2 : fv (decN q) = ldX 9 (bitB (clL b)) := by
    rw [fv_eq.2 hq, scN_fv key9_dec, fv_self]
    rfl
  unfold scN
  rw [e1, e2]
  exact congrArg Fin.val (agree _ _ hb ha (ldK_even _ hb0) (ldK_even _ ha0))
end Go.Proofs.Ythokfcmnijpkhab
