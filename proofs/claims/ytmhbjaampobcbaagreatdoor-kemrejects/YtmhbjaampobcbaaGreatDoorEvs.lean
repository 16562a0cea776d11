/- What the proofs of this seat stand on and that names no program: memory, rows, arrays, regions, and plain mathematics; several texts in one. -/
import Derived.Test.YtmhbjaampobcbaaGreatDoorKec
import Derived.WalkKit

namespace Go.Proofs.YtmhbjaampobcbaaGreatDoor
set_option linter.unusedSimpArgs false
set_option linter.unusedVariables false

def frc {α : Type} (x : Nat) (f : Nat → α) : α := match x with
 | 0 => f 0
 | n + 1 => f (n + 1)
theorem frc_eq {α : Type} (x : Nat) (f : Nat → α) : frc x f = f x := by cases x <;> rfl
def kR {α : Type} (rc : Nat) (a0 a1 a2 a3 a4 a5 a6 a7 a8 a9 a10 a11 a12 a13 a14 a15 a16 a17 a18 a19 a20 a21 a22 a23 a24 : Nat) (k : List Nat → α) : α :=
  frc (a0 ^^^ a5 ^^^ a10 ^^^ a15 ^^^ a20) fun c0 => frc (a1 ^^^ a6 ^^^ a11 ^^^ a16 ^^^ a21) fun c1 => frc (a2 ^^^ a7 ^^^ a12 ^^^ a17 ^^^ a22) fun c2 => frc (a3 ^^^ a8 ^^^ a13 ^^^ a18 ^^^ a23) fun c3 => frc (a4 ^^^ a9 ^^^ a14 ^^^ a19 ^^^ a24) fun c4 => 
  frc (c0 * 2 % 18446744073709551616 + c0 / 9223372036854775808) fun q0 => frc (c1 * 2 % 18446744073709551616 + c1 / 9223372036854775808) fun q1 => frc (c2 * 2 % 18446744073709551616 + c2 / 9223372036854775808) fun q2 => frc (c3 * 2 % 18446744073709551616 + c3 / 9223372036854775808) fun q3 => frc (c4 * 2 % 18446744073709551616 + c4 / 9223372036854775808) fun q4 => 
  frc (a0 ^^^ c4 ^^^ q1) fun t0 => frc (a1 ^^^ c0 ^^^ q2) fun t1 => frc (a2 ^^^ c1 ^^^ q3) fun t2 => frc (a3 ^^^ c2 ^^^ q4) fun t3 => frc (a4 ^^^ c3 ^^^ q0) fun t4 => 
  frc (a5 ^^^ c4 ^^^ q1) fun t5 => frc (a6 ^^^ c0 ^^^ q2) fun t6 => frc (a7 ^^^ c1 ^^^ q3) fun t7 => frc (a8 ^^^ c2 ^^^ q4) fun t8 => frc (a9 ^^^ c3 ^^^ q0) fun t9 => 
  frc (a10 ^^^ c4 ^^^ q1) fun t10 => frc (a11 ^^^ c0 ^^^ q2) fun t11 => frc (a12 ^^^ c1 ^^^ q3) fun t12 => frc (a13 ^^^ c2 ^^^ q4) fun t13 => frc (a14 ^^^ c3 ^^^ q0) fun t14 => 
  frc (a15 ^^^ c4 ^^^ q1) fun t15 => frc (a16 ^^^ c0 ^^^ q2) fun t16 => frc (a17 ^^^ c1 ^^^ q3) fun t17 => frc (a18 ^^^ c2 ^^^ q4) fun t18 => frc (a19 ^^^ c3 ^^^ q0) fun t19 => 
  frc (a20 ^^^ c4 ^^^ q1) fun t20 => frc (a21 ^^^ c0 ^^^ q2) fun t21 => frc (a22 ^^^ c1 ^^^ q3) fun t22 => frc (a23 ^^^ c2 ^^^ q4) fun t23 => frc (a24 ^^^ c3 ^^^ q0) fun t24 => 
  frc t0 fun u0 => frc (t1 * 2 % 18446744073709551616 + t1 / 9223372036854775808) fun u1 => frc (t2 * 4611686018427387904 % 18446744073709551616 + t2 / 4) fun u2 => frc (t3 * 268435456 % 18446744073709551616 + t3 / 68719476736) fun u3 => frc (t4 * 134217728 % 18446744073709551616 + t4 / 137438953472) fun u4 => 
  frc (t5 * 68719476736 % 18446744073709551616 + t5 / 268435456) fun u5 => frc (t6 * 17592186044416 % 18446744073709551616 + t6 / 1048576) fun u6 => frc (t7 * 64 % 18446744073709551616 + t7 / 288230376151711744) fun u7 => frc (t8 * 36028797018963968 % 18446744073709551616 + t8 / 512) fun u8 => frc (t9 * 1048576 % 18446744073709551616 + t9 / 17592186044416) fun u9 => 
  frc (t10 * 8 % 18446744073709551616 + t10 / 2305843009213693952) fun u10 => frc (t11 * 1024 % 18446744073709551616 + t11 / 18014398509481984) fun u11 => frc (t12 * 8796093022208 % 18446744073709551616 + t12 / 2097152) fun u12 => frc (t13 * 33554432 % 18446744073709551616 + t13 / 549755813888) fun u13 => frc (t14 * 549755813888 % 18446744073709551616 + t14 / 33554432) fun u14 => 
  frc (t15 * 2199023255552 % 18446744073709551616 + t15 / 8388608) fun u15 => frc (t16 * 35184372088832 % 18446744073709551616 + t16 / 524288) fun u16 => frc (t17 * 32768 % 18446744073709551616 + t17 / 562949953421312) fun u17 => frc (t18 * 2097152 % 18446744073709551616 + t18 / 8796093022208) fun u18 => frc (t19 * 256 % 18446744073709551616 + t19 / 72057594037927936) fun u19 => 
  frc (t20 * 262144 % 18446744073709551616 + t20 / 70368744177664) fun u20 => frc (t21 * 4 % 18446744073709551616 + t21 / 4611686018427387904) fun u21 => frc (t22 * 2305843009213693952 % 18446744073709551616 + t22 / 8) fun u22 => frc (t23 * 72057594037927936 % 18446744073709551616 + t23 / 256) fun u23 => frc (t24 * 16384 % 18446744073709551616 + t24 / 1125899906842624) fun u24 => 
  frc ((u0 ^^^ (u12 - (u12 &&& u6))) ^^^ rc) fun e0 => frc (u6 ^^^ (u18 - (u18 &&& u12))) fun e1 => frc (u12 ^^^ (u24 - (u24 &&& u18))) fun e2 => frc (u18 ^^^ (u0 - (u0 &&& u24))) fun e3 => frc (u24 ^^^ (u6 - (u6 &&& u0))) fun e4 => 
  frc (u3 ^^^ (u10 - (u10 &&& u9))) fun e5 => frc (u9 ^^^ (u16 - (u16 &&& u10))) fun e6 => frc (u10 ^^^ (u22 - (u22 &&& u16))) fun e7 => frc (u16 ^^^ (u3 - (u3 &&& u22))) fun e8 => frc (u22 ^^^ (u9 - (u9 &&& u3))) fun e9 => 
  frc (u1 ^^^ (u13 - (u13 &&& u7))) fun e10 => frc (u7 ^^^ (u19 - (u19 &&& u13))) fun e11 => frc (u13 ^^^ (u20 - (u20 &&& u19))) fun e12 => frc (u19 ^^^ (u1 - (u1 &&& u20))) fun e13 => frc (u20 ^^^ (u7 - (u7 &&& u1))) fun e14 => 
  frc (u4 ^^^ (u11 - (u11 &&& u5))) fun e15 => frc (u5 ^^^ (u17 - (u17 &&& u11))) fun e16 => frc (u11 ^^^ (u23 - (u23 &&& u17))) fun e17 => frc (u17 ^^^ (u4 - (u4 &&& u23))) fun e18 => frc (u23 ^^^ (u5 - (u5 &&& u4))) fun e19 => 
  frc (u2 ^^^ (u14 - (u14 &&& u8))) fun e20 => frc (u8 ^^^ (u15 - (u15 &&& u14))) fun e21 => frc (u14 ^^^ (u21 - (u21 &&& u15))) fun e22 => frc (u15 ^^^ (u2 - (u2 &&& u21))) fun e23 => frc (u21 ^^^ (u8 - (u8 &&& u2))) fun e24 => 
  k [e0, e1, e2, e3, e4, e5, e6, e7, e8, e9, e10, e11, e12, e13, e14, e15, e16, e17, e18, e19, e20, e21, e22, e23, e24]
theorem thk0 (f : Nat → Nat) : thL f 0 = f 0 ^^^ colN f 4 ^^^ ((colN f 1) * 2 % 18446744073709551616 + (colN f 1) / 9223372036854775808) := by kernel_rfl
theorem thk1 (f : Nat → Nat) : thL f 1 = f 1 ^^^ colN f 0 ^^^ ((colN f 2) * 2 % 18446744073709551616 + (colN f 2) / 9223372036854775808) := by kernel_rfl
theorem thk2 (f : Nat → Nat) : thL f 2 = f 2 ^^^ colN f 1 ^^^ ((colN f 3) * 2 % 18446744073709551616 + (colN f 3) / 9223372036854775808) := by kernel_rfl
theorem thk3 (f : Nat → Nat) : thL f 3 = f 3 ^^^ colN f 2 ^^^ ((colN f 4) * 2 % 18446744073709551616 + (colN f 4) / 9223372036854775808) := by kernel_rfl
theorem thk4 (f : Nat → Nat) : thL f 4 = f 4 ^^^ colN f 3 ^^^ ((colN f 0) * 2 % 18446744073709551616 + (colN f 0) / 9223372036854775808) := by kernel_rfl
theorem thk5 (f : Nat → Nat) : thL f 5 = f 5 ^^^ colN f 4 ^^^ ((colN f 1) * 2 % 18446744073709551616 + (colN f 1) / 9223372036854775808) := by kernel_rfl
theorem thk6 (f : Nat → Nat) : thL f 6 = f 6 ^^^ colN f 0 ^^^ ((colN f 2) * 2 % 18446744073709551616 + (colN f 2) / 9223372036854775808) := by kernel_rfl
theorem thk7 (f : Nat → Nat) : thL f 7 = f 7 ^^^ colN f 1 ^^^ ((colN f 3) * 2 % 18446744073709551616 + (colN f 3) / 9223372036854775808) := by kernel_rfl
theorem thk8 (f : Nat → Nat) : thL f 8 = f 8 ^^^ colN f 2 ^^^ ((colN f 4) * 2 % 18446744073709551616 + (colN f 4) / 9223372036854775808) := by kernel_rfl
theorem thk9 (f : Nat → Nat) : thL f 9 = f 9 ^^^ colN f 3 ^^^ ((colN f 0) * 2 % 18446744073709551616 + (colN f 0) / 9223372036854775808) := by kernel_rfl
theorem thk10 (f : Nat → Nat) : thL f 10 = f 10 ^^^ colN f 4 ^^^ ((colN f 1) * 2 % 18446744073709551616 + (colN f 1) / 9223372036854775808) := by kernel_rfl
theorem thk11 (f : Nat → Nat) : thL f 11 = f 11 ^^^ colN f 0 ^^^ ((colN f 2) * 2 % 18446744073709551616 + (colN f 2) / 9223372036854775808) := by kernel_rfl
theorem thk12 (f : Nat → Nat) : thL f 12 = f 12 ^^^ colN f 1 ^^^ ((colN f 3) * 2 % 18446744073709551616 + (colN f 3) / 9223372036854775808) := by kernel_rfl
theorem thk13 (f : Nat → Nat) : thL f 13 = f 13 ^^^ colN f 2 ^^^ ((colN f 4) * 2 % 18446744073709551616 + (colN f 4) / 9223372036854775808) := by kernel_rfl
theorem thk14 (f : Nat → Nat) : thL f 14 = f 14 ^^^ colN f 3 ^^^ ((colN f 0) * 2 % 18446744073709551616 + (colN f 0) / 9223372036854775808) := by kernel_rfl
theorem thk15 (f : Nat → Nat) : thL f 15 = f 15 ^^^ colN f 4 ^^^ ((colN f 1) * 2 % 18446744073709551616 + (colN f 1) / 9223372036854775808) := by kernel_rfl
theorem thk16 (f : Nat → Nat) : thL f 16 = f 16 ^^^ colN f 0 ^^^ ((colN f 2) * 2 % 18446744073709551616 + (colN f 2) / 9223372036854775808) := by kernel_rfl
theorem thk17 (f : Nat → Nat) : thL f 17 = f 17 ^^^ colN f 1 ^^^ ((colN f 3) * 2 % 18446744073709551616 + (colN f 3) / 9223372036854775808) := by kernel_rfl
theorem thk18 (f : Nat → Nat) : thL f 18 = f 18 ^^^ colN f 2 ^^^ ((colN f 4) * 2 % 18446744073709551616 + (colN f 4) / 9223372036854775808) := by kernel_rfl
theorem thk19 (f : Nat → Nat) : thL f 19 = f 19 ^^^ colN f 3 ^^^ ((colN f 0) * 2 % 18446744073709551616 + (colN f 0) / 9223372036854775808) := by kernel_rfl
theorem thk20 (f : Nat → Nat) : thL f 20 = f 20 ^^^ colN f 4 ^^^ ((colN f 1) * 2 % 18446744073709551616 + (colN f 1) / 9223372036854775808) := by kernel_rfl
theorem thk21 (f : Nat → Nat) : thL f 21 = f 21 ^^^ colN f 0 ^^^ ((colN f 2) * 2 % 18446744073709551616 + (colN f 2) / 9223372036854775808) := by kernel_rfl
theorem thk22 (f : Nat → Nat) : thL f 22 = f 22 ^^^ colN f 1 ^^^ ((colN f 3) * 2 % 18446744073709551616 + (colN f 3) / 9223372036854775808) := by kernel_rfl
theorem thk23 (f : Nat → Nat) : thL f 23 = f 23 ^^^ colN f 2 ^^^ ((colN f 4) * 2 % 18446744073709551616 + (colN f 4) / 9223372036854775808) := by kernel_rfl
theorem thk24 (f : Nat → Nat) : thL f 24 = f 24 ^^^ colN f 3 ^^^ ((colN f 0) * 2 % 18446744073709551616 + (colN f 0) / 9223372036854775808) := by kernel_rfl
theorem rhk0 (f : Nat → Nat) : rhL f 0 = f 0 := rfl
theorem rho1 : rhBy (rhTau 1) = 1 := by decide +kernel
theorem rhk1 (f : Nat → Nat) : rhL f 1 = (f 1 * 2 % 18446744073709551616 + f 1 / 9223372036854775808) := by
 unfold rhL
 rw [if_neg (by decide), rho1]
 rfl
theorem rho2 : rhBy (rhTau 2) = 62 := by decide +kernel
theorem rhk2 (f : Nat → Nat) : rhL f 2 = (f 2 * 4611686018427387904 % 18446744073709551616 + f 2 / 4) := by
 unfold rhL
 rw [if_neg (by decide), rho2]
 rfl
theorem rho3 : rhBy (rhTau 3) = 28 := by decide +kernel
theorem rhk3 (f : Nat → Nat) : rhL f 3 = (f 3 * 268435456 % 18446744073709551616 + f 3 / 68719476736) := by
 unfold rhL
 rw [if_neg (by decide), rho3]
 rfl
theorem rho4 : rhBy (rhTau 4) = 27 := by decide +kernel
theorem rhk4 (f : Nat → Nat) : rhL f 4 = (f 4 * 134217728 % 18446744073709551616 + f 4 / 137438953472) := by
 unfold rhL
 rw [if_neg (by decide), rho4]
 rfl
theorem rho5 : rhBy (rhTau 5) = 36 := by decide +kernel
theorem rhk5 (f : Nat → Nat) : rhL f 5 = (f 5 * 68719476736 % 18446744073709551616 + f 5 / 268435456) := by
 unfold rhL
 rw [if_neg (by decide), rho5]
 rfl
theorem rho6 : rhBy (rhTau 6) = 44 := by decide +kernel
theorem rhk6 (f : Nat → Nat) : rhL f 6 = (f 6 * 17592186044416 % 18446744073709551616 + f 6 / 1048576) := by
 unfold rhL
 rw [if_neg (by decide), rho6]
 rfl
theorem rho7 : rhBy (rhTau 7) = 6 := by decide +kernel
theorem rhk7 (f : Nat → Nat) : rhL f 7 = (f 7 * 64 % 18446744073709551616 + f 7 / 288230376151711744) := by
 unfold rhL
 rw [if_neg (by decide), rho7]
 rfl
theorem rho8 : rhBy (rhTau 8) = 55 := by decide +kernel
theorem rhk8 (f : Nat → Nat) : rhL f 8 = (f 8 * 36028797018963968 % 18446744073709551616 + f 8 / 512) := by
 unfold rhL
 rw [if_neg (by decide), rho8]
 rfl
theorem rho9 : rhBy (rhTau 9) = 20 := by decide +kernel
theorem rhk9 (f : Nat → Nat) : rhL f 9 = (f 9 * 1048576 % 18446744073709551616 + f 9 / 17592186044416) := by
 unfold rhL
 rw [if_neg (by decide), rho9]
 rfl
theorem rho10 : rhBy (rhTau 10) = 3 := by decide +kernel
theorem rhk10 (f : Nat → Nat) : rhL f 10 = (f 10 * 8 % 18446744073709551616 + f 10 / 2305843009213693952) := by
 unfold rhL
 rw [if_neg (by decide), rho10]
 rfl
theorem rho11 : rhBy (rhTau 11) = 10 := by decide +kernel
theorem rhk11 (f : Nat → Nat) : rhL f 11 = (f 11 * 1024 % 18446744073709551616 + f 11 / 18014398509481984) := by
 unfold rhL
 rw [if_neg (by decide), rho11]
 rfl
theorem rho12 : rhBy (rhTau 12) = 43 := by decide +kernel
theorem rhk12 (f : Nat → Nat) : rhL f 12 = (f 12 * 8796093022208 % 18446744073709551616 + f 12 / 2097152) := by
 unfold rhL
 rw [if_neg (by decide), rho12]
 rfl
theorem rho13 : rhBy (rhTau 13) = 25 := by decide +kernel
theorem rhk13 (f : Nat → Nat) : rhL f 13 = (f 13 * 33554432 % 18446744073709551616 + f 13 / 549755813888) := by
 unfold rhL
 rw [if_neg (by decide), rho13]
 rfl
theorem rho14 : rhBy (rhTau 14) = 39 := by decide +kernel
theorem rhk14 (f : Nat → Nat) : rhL f 14 = (f 14 * 549755813888 % 18446744073709551616 + f 14 / 33554432) := by
 unfold rhL
 rw [if_neg (by decide), rho14]
 rfl
theorem rho15 : rhBy (rhTau 15) = 41 := by decide +kernel
theorem rhk15 (f : Nat → Nat) : rhL f 15 = (f 15 * 2199023255552 % 18446744073709551616 + f 15 / 8388608) := by
 unfold rhL
 rw [if_neg (by decide), rho15]
 rfl
theorem rho16 : rhBy (rhTau 16) = 45 := by decide +kernel
theorem rhk16 (f : Nat → Nat) : rhL f 16 = (f 16 * 35184372088832 % 18446744073709551616 + f 16 / 524288) := by
 unfold rhL
 rw [if_neg (by decide), rho16]
 rfl
theorem rho17 : rhBy (rhTau 17) = 15 := by decide +kernel
theorem rhk17 (f : Nat → Nat) : rhL f 17 = (f 17 * 32768 % 18446744073709551616 + f 17 / 562949953421312) := by
 unfold rhL
 rw [if_neg (by decide), rho17]
 rfl
theorem rho18 : rhBy (rhTau 18) = 21 := by decide +kernel
theorem rhk18 (f : Nat → Nat) : rhL f 18 = (f 18 * 2097152 % 18446744073709551616 + f 18 / 8796093022208) := by
 unfold rhL
 rw [if_neg (by decide), rho18]
 rfl
theorem rho19 : rhBy (rhTau 19) = 8 := by decide +kernel
theorem rhk19 (f : Nat → Nat) : rhL f 19 = (f 19 * 256 % 18446744073709551616 + f 19 / 72057594037927936) := by
 unfold rhL
 rw [if_neg (by decide), rho19]
 rfl
theorem rho20 : rhBy (rhTau 20) = 18 := by decide +kernel
theorem rhk20 (f : Nat → Nat) : rhL f 20 = (f 20 * 262144 % 18446744073709551616 + f 20 / 70368744177664) := by
 unfold rhL
 rw [if_neg (by decide), rho20]
 rfl
theorem rho21 : rhBy (rhTau 21) = 2 := by decide +kernel
theorem rhk21 (f : Nat → Nat) : rhL f 21 = (f 21 * 4 % 18446744073709551616 + f 21 / 4611686018427387904) := by
 unfold rhL
 rw [if_neg (by decide), rho21]
 rfl
theorem rho22 : rhBy (rhTau 22) = 61 := by decide +kernel
theorem rhk22 (f : Nat → Nat) : rhL f 22 = (f 22 * 2305843009213693952 % 18446744073709551616 + f 22 / 8) := by
 unfold rhL
 rw [if_neg (by decide), rho22]
 rfl
theorem rho23 : rhBy (rhTau 23) = 56 := by decide +kernel
theorem rhk23 (f : Nat → Nat) : rhL f 23 = (f 23 * 72057594037927936 % 18446744073709551616 + f 23 / 256) := by
 unfold rhL
 rw [if_neg (by decide), rho23]
 rfl
theorem rho24 : rhBy (rhTau 24) = 14 := by decide +kernel
theorem rhk24 (f : Nat → Nat) : rhL f 24 = (f 24 * 16384 % 18446744073709551616 + f 24 / 1125899906842624) := by
 unfold rhL
 rw [if_neg (by decide), rho24]
 rfl
theorem rdk0 (f : Nat → Nat) (i : Nat) : rdL f i 0 = (rhL (thL f) 0 ^^^ (rhL (thL f) 12 - (rhL (thL f) 12 &&& rhL (thL f) 6))) ^^^ kst.getD i 0 := by
 simp only [rdL, ioK, chL, piF, Nat.reduceMod, Nat.reduceAdd, Nat.reduceMul, Nat.reduceDiv, Nat.reduceSub, Nat.reduceEqDiff, reduceIte, Nat.zero_mod, Nat.zero_div, Nat.mul_zero, Nat.add_zero, Nat.zero_add, Nat.sub_self, Nat.sub_zero, Nat.one_ne_zero, Nat.mod_self, Nat.mul_one, Nat.div_self]
theorem rdk1 (f : Nat → Nat) (i : Nat) : rdL f i 1 = rhL (thL f) 6 ^^^ (rhL (thL f) 18 - (rhL (thL f) 18 &&& rhL (thL f) 12)) := by
 simp only [rdL, ioK, chL, piF, Nat.reduceMod, Nat.reduceAdd, Nat.reduceMul, Nat.reduceDiv, Nat.reduceSub, Nat.reduceEqDiff, reduceIte, Nat.zero_mod, Nat.zero_div, Nat.mul_zero, Nat.add_zero, Nat.zero_add, Nat.sub_self, Nat.sub_zero, Nat.one_ne_zero, Nat.mod_self, Nat.mul_one, Nat.div_self]
theorem rdk2 (f : Nat → Nat) (i : Nat) : rdL f i 2 = rhL (thL f) 12 ^^^ (rhL (thL f) 24 - (rhL (thL f) 24 &&& rhL (thL f) 18)) := by
 simp only [rdL, ioK, chL, piF, Nat.reduceMod, Nat.reduceAdd, Nat.reduceMul, Nat.reduceDiv, Nat.reduceSub, Nat.reduceEqDiff, reduceIte, Nat.zero_mod, Nat.zero_div, Nat.mul_zero, Nat.add_zero, Nat.zero_add, Nat.sub_self, Nat.sub_zero, Nat.one_ne_zero, Nat.mod_self, Nat.mul_one, Nat.div_self]
theorem rdk3 (f : Nat → Nat) (i : Nat) : rdL f i 3 = rhL (thL f) 18 ^^^ (rhL (thL f) 0 - (rhL (thL f) 0 &&& rhL (thL f) 24)) := by
 simp only [rdL, ioK, chL, piF, Nat.reduceMod, Nat.reduceAdd, Nat.reduceMul, Nat.reduceDiv, Nat.reduceSub, Nat.reduceEqDiff, reduceIte, Nat.zero_mod, Nat.zero_div, Nat.mul_zero, Nat.add_zero, Nat.zero_add, Nat.sub_self, Nat.sub_zero, Nat.one_ne_zero, Nat.mod_self, Nat.mul_one, Nat.div_self]
theorem rdk4 (f : Nat → Nat) (i : Nat) : rdL f i 4 = rhL (thL f) 24 ^^^ (rhL (thL f) 6 - (rhL (thL f) 6 &&& rhL (thL f) 0)) := by
 simp only [rdL, ioK, chL, piF, Nat.reduceMod, Nat.reduceAdd, Nat.reduceMul, Nat.reduceDiv, Nat.reduceSub, Nat.reduceEqDiff, reduceIte, Nat.zero_mod, Nat.zero_div, Nat.mul_zero, Nat.add_zero, Nat.zero_add, Nat.sub_self, Nat.sub_zero, Nat.one_ne_zero, Nat.mod_self, Nat.mul_one, Nat.div_self]
theorem rdk5 (f : Nat → Nat) (i : Nat) : rdL f i 5 = rhL (thL f) 3 ^^^ (rhL (thL f) 10 - (rhL (thL f) 10 &&& rhL (thL f) 9)) := by
 simp only [rdL, ioK, chL, piF, Nat.reduceMod, Nat.reduceAdd, Nat.reduceMul, Nat.reduceDiv, Nat.reduceSub, Nat.reduceEqDiff, reduceIte, Nat.zero_mod, Nat.zero_div, Nat.mul_zero, Nat.add_zero, Nat.zero_add, Nat.sub_self, Nat.sub_zero, Nat.one_ne_zero, Nat.mod_self, Nat.mul_one, Nat.div_self]
theorem rdk6 (f : Nat → Nat) (i : Nat) : rdL f i 6 = rhL (thL f) 9 ^^^ (rhL (thL f) 16 - (rhL (thL f) 16 &&& rhL (thL f) 10)) := by
 simp only [rdL, ioK, chL, piF, Nat.reduceMod, Nat.reduceAdd, Nat.reduceMul, Nat.reduceDiv, Nat.reduceSub, Nat.reduceEqDiff, reduceIte, Nat.zero_mod, Nat.zero_div, Nat.mul_zero, Nat.add_zero, Nat.zero_add, Nat.sub_self, Nat.sub_zero, Nat.one_ne_zero, Nat.mod_self, Nat.mul_one, Nat.div_self]
theorem rdk7 (f : Nat → Nat) (i : Nat) : rdL f i 7 = rhL (thL f) 10 ^^^ (rhL (thL f) 22 - (rhL (thL f) 22 &&& rhL (thL f) 16)) := by
 simp only [rdL, ioK, chL, piF, Nat.reduceMod, Nat.reduceAdd, Nat.reduceMul, Nat.reduceDiv, Nat.reduceSub, Nat.reduceEqDiff, reduceIte, Nat.zero_mod, Nat.zero_div, Nat.mul_zero, Nat.add_zero, Nat.zero_add, Nat.sub_self, Nat.sub_zero, Nat.one_ne_zero, Nat.mod_self, Nat.mul_one, Nat.div_self]
theorem rdk8 (f : Nat → Nat) (i : Nat) : rdL f i 8 = rhL (thL f) 16 ^^^ (rhL (thL f) 3 - (rhL (thL f) 3 &&& rhL (thL f) 22)) := by
 simp only [rdL, ioK, chL, piF, Nat.reduceMod, Nat.reduceAdd, Nat.reduceMul, Nat.reduceDiv, Nat.reduceSub, Nat.reduceEqDiff, reduceIte, Nat.zero_mod, Nat.zero_div, Nat.mul_zero, Nat.add_zero, Nat.zero_add, Nat.sub_self, Nat.sub_zero, Nat.one_ne_zero, Nat.mod_self, Nat.mul_one, Nat.div_self]
theorem rdk9 (f : Nat → Nat) (i : Nat) : rdL f i 9 = rhL (thL f) 22 ^^^ (rhL (thL f) 9 - (rhL (thL f) 9 &&& rhL (thL f) 3)) := by
 simp only [rdL, ioK, chL, piF, Nat.reduceMod, Nat.reduceAdd, Nat.reduceMul, Nat.reduceDiv, Nat.reduceSub, Nat.reduceEqDiff, reduceIte, Nat.zero_mod, Nat.zero_div, Nat.mul_zero, Nat.add_zero, Nat.zero_add, Nat.sub_self, Nat.sub_zero, Nat.one_ne_zero, Nat.mod_self, Nat.mul_one, Nat.div_self]
theorem rdk10 (f : Nat → Nat) (i : Nat) : rdL f i 10 = rhL (thL f) 1 ^^^ (rhL (thL f) 13 - (rhL (thL f) 13 &&& rhL (thL f) 7)) := by
 simp only [rdL, ioK, chL, piF, Nat.reduceMod, Nat.reduceAdd, Nat.reduceMul, Nat.reduceDiv, Nat.reduceSub, Nat.reduceEqDiff, reduceIte, Nat.zero_mod, Nat.zero_div, Nat.mul_zero, Nat.add_zero, Nat.zero_add, Nat.sub_self, Nat.sub_zero, Nat.one_ne_zero, Nat.mod_self, Nat.mul_one, Nat.div_self]
theorem rdk11 (f : Nat → Nat) (i : Nat) : rdL f i 11 = rhL (thL f) 7 ^^^ (rhL (thL f) 19 - (rhL (thL f) 19 &&& rhL (thL f) 13)) := by
 simp only [rdL, ioK, chL, piF, Nat.reduceMod, Nat.reduceAdd, Nat.reduceMul, Nat.reduceDiv, Nat.reduceSub, Nat.reduceEqDiff, reduceIte, Nat.zero_mod, Nat.zero_div, Nat.mul_zero, Nat.add_zero, Nat.zero_add, Nat.sub_self, Nat.sub_zero, Nat.one_ne_zero, Nat.mod_self, Nat.mul_one, Nat.div_self]
theorem rdk12 (f : Nat → Nat) (i : Nat) : rdL f i 12 = rhL (thL f) 13 ^^^ (rhL (thL f) 20 - (rhL (thL f) 20 &&& rhL (thL f) 19)) := by
 simp only [rdL, ioK, chL, piF, Nat.reduceMod, Nat.reduceAdd, Nat.reduceMul, Nat.reduceDiv, Nat.reduceSub, Nat.reduceEqDiff, reduceIte, Nat.zero_mod, Nat.zero_div, Nat.mul_zero, Nat.add_zero, Nat.zero_add, Nat.sub_self, Nat.sub_zero, Nat.one_ne_zero, Nat.mod_self, Nat.mul_one, Nat.div_self]
theorem rdk13 (f : Nat → Nat) (i : Nat) : rdL f i 13 = rhL (thL f) 19 ^^^ (rhL (thL f) 1 - (rhL (thL f) 1 &&& rhL (thL f) 20)) := by
 simp only [rdL, ioK, chL, piF, Nat.reduceMod, Nat.reduceAdd, Nat.reduceMul, Nat.reduceDiv, Nat.reduceSub, Nat.reduceEqDiff, reduceIte, Nat.zero_mod, Nat.zero_div, Nat.mul_zero, Nat.add_zero, Nat.zero_add, Nat.sub_self, Nat.sub_zero, Nat.one_ne_zero, Nat.mod_self, Nat.mul_one, Nat.div_self]
theorem rdk14 (f : Nat → Nat) (i : Nat) : rdL f i 14 = rhL (thL f) 20 ^^^ (rhL (thL f) 7 - (rhL (thL f) 7 &&& rhL (thL f) 1)) := by
 simp only [rdL, ioK, chL, piF, Nat.reduceMod, Nat.reduceAdd, Nat.reduceMul, Nat.reduceDiv, Nat.reduceSub, Nat.reduceEqDiff, reduceIte, Nat.zero_mod, Nat.zero_div, Nat.mul_zero, Nat.add_zero, Nat.zero_add, Nat.sub_self, Nat.sub_zero, Nat.one_ne_zero, Nat.mod_self, Nat.mul_one, Nat.div_self]
theorem rdk15 (f : Nat → Nat) (i : Nat) : rdL f i 15 = rhL (thL f) 4 ^^^ (rhL (thL f) 11 - (rhL (thL f) 11 &&& rhL (thL f) 5)) := by
 simp only [rdL, ioK, chL, piF, Nat.reduceMod, Nat.reduceAdd, Nat.reduceMul, Nat.reduceDiv, Nat.reduceSub, Nat.reduceEqDiff, reduceIte, Nat.zero_mod, Nat.zero_div, Nat.mul_zero, Nat.add_zero, Nat.zero_add, Nat.sub_self, Nat.sub_zero, Nat.one_ne_zero, Nat.mod_self, Nat.mul_one, Nat.div_self]
theorem rdk16 (f : Nat → Nat) (i : Nat) : rdL f i 16 = rhL (thL f) 5 ^^^ (rhL (thL f) 17 - (rhL (thL f) 17 &&& rhL (thL f) 11)) := by
 simp only [rdL, ioK, chL, piF, Nat.reduceMod, Nat.reduceAdd, Nat.reduceMul, Nat.reduceDiv, Nat.reduceSub, Nat.reduceEqDiff, reduceIte, Nat.zero_mod, Nat.zero_div, Nat.mul_zero, Nat.add_zero, Nat.zero_add, Nat.sub_self, Nat.sub_zero, Nat.one_ne_zero, Nat.mod_self, Nat.mul_one, Nat.div_self]
theorem rdk17 (f : Nat → Nat) (i : Nat) : rdL f i 17 = rhL (thL f) 11 ^^^ (rhL (thL f) 23 - (rhL (thL f) 23 &&& rhL (thL f) 17)) := by
 simp only [rdL, ioK, chL, piF, Nat.reduceMod, Nat.reduceAdd, Nat.reduceMul, Nat.reduceDiv, Nat.reduceSub, Nat.reduceEqDiff, reduceIte, Nat.zero_mod, Nat.zero_div, Nat.mul_zero, Nat.add_zero, Nat.zero_add, Nat.sub_self, Nat.sub_zero, Nat.one_ne_zero, Nat.mod_self, Nat.mul_one, Nat.div_self]
theorem rdk18 (f : Nat → Nat) (i : Nat) : rdL f i 18 = rhL (thL f) 17 ^^^ (rhL (thL f) 4 - (rhL (thL f) 4 &&& rhL (thL f) 23)) := by
 simp only [rdL, ioK, chL, piF, Nat.reduceMod, Nat.reduceAdd, Nat.reduceMul, Nat.reduceDiv, Nat.reduceSub, Nat.reduceEqDiff, reduceIte, Nat.zero_mod, Nat.zero_div, Nat.mul_zero, Nat.add_zero, Nat.zero_add, Nat.sub_self, Nat.sub_zero, Nat.one_ne_zero, Nat.mod_self, Nat.mul_one, Nat.div_self]
theorem rdk19 (f : Nat → Nat) (i : Nat) : rdL f i 19 = rhL (thL f) 23 ^^^ (rhL (thL f) 5 - (rhL (thL f) 5 &&& rhL (thL f) 4)) := by
 simp only [rdL, ioK, chL, piF, Nat.reduceMod, Nat.reduceAdd, Nat.reduceMul, Nat.reduceDiv, Nat.reduceSub, Nat.reduceEqDiff, reduceIte, Nat.zero_mod, Nat.zero_div, Nat.mul_zero, Nat.add_zero, Nat.zero_add, Nat.sub_self, Nat.sub_zero, Nat.one_ne_zero, Nat.mod_self, Nat.mul_one, Nat.div_self]
theorem rdk20 (f : Nat → Nat) (i : Nat) : rdL f i 20 = rhL (thL f) 2 ^^^ (rhL (thL f) 14 - (rhL (thL f) 14 &&& rhL (thL f) 8)) := by
 simp only [rdL, ioK, chL, piF, Nat.reduceMod, Nat.reduceAdd, Nat.reduceMul, Nat.reduceDiv, Nat.reduceSub, Nat.reduceEqDiff, reduceIte, Nat.zero_mod, Nat.zero_div, Nat.mul_zero, Nat.add_zero, Nat.zero_add, Nat.sub_self, Nat.sub_zero, Nat.one_ne_zero, Nat.mod_self, Nat.mul_one, Nat.div_self]
theorem rdk21 (f : Nat → Nat) (i : Nat) : rdL f i 21 = rhL (thL f) 8 ^^^ (rhL (thL f) 15 - (rhL (thL f) 15 &&& rhL (thL f) 14)) := by
 simp only [rdL, ioK, chL, piF, Nat.reduceMod, Nat.reduceAdd, Nat.reduceMul, Nat.reduceDiv, Nat.reduceSub, Nat.reduceEqDiff, reduceIte, Nat.zero_mod, Nat.zero_div, Nat.mul_zero, Nat.add_zero, Nat.zero_add, Nat.sub_self, Nat.sub_zero, Nat.one_ne_zero, Nat.mod_self, Nat.mul_one, Nat.div_self]
theorem rdk22 (f : Nat → Nat) (i : Nat) : rdL f i 22 = rhL (thL f) 14 ^^^ (rhL (thL f) 21 - (rhL (thL f) 21 &&& rhL (thL f) 15)) := by
 simp only [rdL, ioK, chL, piF, Nat.reduceMod, Nat.reduceAdd, Nat.reduceMul, Nat.reduceDiv, Nat.reduceSub, Nat.reduceEqDiff, reduceIte, Nat.zero_mod, Nat.zero_div, Nat.mul_zero, Nat.add_zero, Nat.zero_add, Nat.sub_self, Nat.sub_zero, Nat.one_ne_zero, Nat.mod_self, Nat.mul_one, Nat.div_self]
theorem rdk23 (f : Nat → Nat) (i : Nat) : rdL f i 23 = rhL (thL f) 15 ^^^ (rhL (thL f) 2 - (rhL (thL f) 2 &&& rhL (thL f) 21)) := by
 simp only [rdL, ioK, chL, piF, Nat.reduceMod, Nat.reduceAdd, Nat.reduceMul, Nat.reduceDiv, Nat.reduceSub, Nat.reduceEqDiff, reduceIte, Nat.zero_mod, Nat.zero_div, Nat.mul_zero, Nat.add_zero, Nat.zero_add, Nat.sub_self, Nat.sub_zero, Nat.one_ne_zero, Nat.mod_self, Nat.mul_one, Nat.div_self]
theorem rdk24 (f : Nat → Nat) (i : Nat) : rdL f i 24 = rhL (thL f) 21 ^^^ (rhL (thL f) 8 - (rhL (thL f) 8 &&& rhL (thL f) 2)) := by
 simp only [rdL, ioK, chL, piF, Nat.reduceMod, Nat.reduceAdd, Nat.reduceMul, Nat.reduceDiv, Nat.reduceSub, Nat.reduceEqDiff, reduceIte, Nat.zero_mod, Nat.zero_div, Nat.mul_zero, Nat.add_zero, Nat.zero_add, Nat.sub_self, Nat.sub_zero, Nat.one_ne_zero, Nat.mod_self, Nat.mul_one, Nat.div_self]
theorem cok0 (f : Nat → Nat) : colN f 0 = f 0 ^^^ f 5 ^^^ f 10 ^^^ f 15 ^^^ f 20 := by kernel_rfl
theorem cok1 (f : Nat → Nat) : colN f 1 = f 1 ^^^ f 6 ^^^ f 11 ^^^ f 16 ^^^ f 21 := by kernel_rfl
theorem cok2 (f : Nat → Nat) : colN f 2 = f 2 ^^^ f 7 ^^^ f 12 ^^^ f 17 ^^^ f 22 := by kernel_rfl
theorem cok3 (f : Nat → Nat) : colN f 3 = f 3 ^^^ f 8 ^^^ f 13 ^^^ f 18 ^^^ f 23 := by kernel_rfl
theorem cok4 (f : Nat → Nat) : colN f 4 = f 4 ^^^ f 9 ^^^ f 14 ^^^ f 19 ^^^ f 24 := by kernel_rfl

theorem range25 (g : Nat → Nat) : (List.range 25).map g = [g 0, g 1, g 2, g 3, g 4, g 5, g 6, g 7, g 8, g 9, g 10, g 11, g 12, g 13, g 14, g 15, g 16, g 17, g 18, g 19, g 20, g 21, g 22, g 23, g 24] := rfl
theorem kR_eq {α : Type} (f : Nat → Nat) (i : Nat) (k : List Nat → α) : kR (kst.getD i 0) (f 0) (f 1) (f 2) (f 3) (f 4) (f 5) (f 6) (f 7) (f 8) (f 9) (f 10) (f 11) (f 12) (f 13) (f 14) (f 15) (f 16) (f 17) (f 18) (f 19) (f 20) (f 21) (f 22) (f 23) (f 24) k = k ((List.range 25).map (rdL f i)) := by
 unfold kR
 simp only [frc_eq]
 rw [range25, rdk0, rdk1, rdk2, rdk3, rdk4, rdk5, rdk6, rdk7, rdk8, rdk9, rdk10, rdk11, rdk12, rdk13, rdk14, rdk15, rdk16, rdk17, rdk18, rdk19, rdk20, rdk21, rdk22, rdk23, rdk24]
 simp only [rhk0, rhk1, rhk2, rhk3, rhk4, rhk5, rhk6, rhk7, rhk8, rhk9, rhk10, rhk11, rhk12, rhk13, rhk14, rhk15, rhk16, rhk17, rhk18, rhk19, rhk20, rhk21, rhk22, rhk23, rhk24, thk0, thk1, thk2, thk3, thk4, thk5, thk6, thk7, thk8, thk9, thk10, thk11, thk12, thk13, thk14, thk15, thk16, thk17, thk18, thk19, thk20, thk21, thk22, thk23, thk24, cok0, cok1, cok2, cok3, cok4]
def kRl {α : Type} (rc : Nat) (l : List Nat) (k : List Nat → α) : α := match l with
 | [a0, a1, a2, a3, a4, a5, a6, a7, a8, a9, a10, a11, a12, a13, a14, a15, a16, a17, a18, a19, a20, a21, a22, a23, a24] => kR rc a0 a1 a2 a3 a4 a5 a6 a7 a8 a9 a10 a11 a12 a13 a14 a15 a16 a17 a18 a19 a20 a21 a22 a23 a24 k
 | l => k l
def kPm {α : Type} : List Nat → List Nat → (List Nat → α) → α
 | [], l, k => k l
 | rc :: rcs, l, k => kRl rc l fun m => kPm rcs m k
def frcL {α : Type} : List Nat → (List Nat → α) → α
 | [], k => k []
 | x :: l, k => frc x fun y => frcL l fun ys => k (y :: ys)
theorem frcL_eq {α : Type} : ∀ (l : List Nat) (k : List Nat → α), frcL l k = k l
 | [], k => rfl
 | x :: l, k => by rw [frcL, frc_eq, frcL_eq l]
def lnL (f : Nat → Nat) : List Nat := (List.range 25).map f
theorem lnL_congr {f g : Nat → Nat} (h : ∀ k, k < 25 → f k = g k) : lnL f = lnL g := List.map_congr_left fun k hk => h k (List.mem_range.1 hk)
theorem kRl_eq {α : Type} (f : Nat → Nat) (i : Nat) (k : List Nat → α) : kRl (kst.getD i 0) (lnL f) k = k (lnL (rdL f i)) := by
 have h := kR_eq f i k
 rw [lnL, range25]
 exact h
theorem kst_drop (i : Nat) (h : i < 24) : kst.drop i = kst.getD i 0 :: kst.drop (i + 1) := by
 rw [List.drop_eq_getElem_cons (show i < kst.length from h)]
 simp [show i < kst.length from h]
theorem kPm_from {α : Type} (f : Nat → Nat) (k : List Nat → α) : ∀ n, n ≤ 24 → kPm (kst.drop (24 - n)) (lnL (rdsL f (24 - n))) k = k (lnL (rdsL f 24))
 | 0, _ => by
  rw [Nat.sub_zero, show kst.drop 24 = [] from rfl]
  rfl
 | n + 1, hn => by
  rw [kst_drop (24 - (n + 1)) (by omega), kPm, kRl_eq, show 24 - (n + 1) + 1 = 24 - n by omega]
  have h := kPm_from f k n (by omega)
  have e : rdL (rdsL f (24 - (n + 1))) (24 - (n + 1)) = rdsL f (24 - n) := by
   rw [show 24 - n = 24 - (n + 1) + 1 by omega]
   rfl
  rw [e]
  exact h
theorem kPm_eq {α : Type} (f : Nat → Nat) (hf : ∀ i, f i < 18446744073709551616) (k : List Nat → α) : kPm kst (lnL f) k = k (lnL (rdsF f 24)) := by
 have h := kPm_from f k 24 (Nat.le_refl _)
 rw [Nat.sub_self, List.drop_zero] at h
 have e : lnL (rdsL f 0) = lnL f := rfl
 rw [e] at h
 rw [h, lnL_congr (rdsL_eq f hf 24 (Nat.le_refl _))]
theorem leN_stB8 (x : Nat) (h : x < 18446744073709551616) : leN ((List.range 8).map (stB x)) = x := by
 rw [leN_stB]
 exact Nat.mod_eq_of_lt h
theorem stF_append (g : Nat → Nat) (hg : ∀ i, g i < 18446744073709551616) (n : Nat) (t : List UInt8) (i : Nat) : stF (bsP g (8 * n) ++ t) i = if i < n then g i else stF t (i - n) := by
 unfold stF
 by_cases h : i < n
 ·rw [if_pos h, List.drop_append_of_le_length (by rw [bsP_length]; omega), List.take_append_of_le_length (by rw [List.length_drop, bsP_length]; omega)]
  have e : ((bsP g (8 * n)).drop (8 * i)).take 8 = (List.range 8).map (stB (g i)) := by
   refine List.ext_getElem (by simp [bsP]; omega) fun j h1 h2 => ?_
   have hj : j < 8 := by simpa using h2
   simp only [List.getElem_take, List.getElem_drop, bsP, List.getElem_map, List.getElem_range, byF]
   rw [show (8 * i + j) / 8 = i by omega, show (8 * i + j) % 8 = j by omega]
  rw [e, leN_stB8 _ (hg i)]
 ·rw [if_neg h]
  have e : (bsP g (8 * n) ++ t).drop (8 * i) = t.drop (8 * (i - n)) := by
   rw [List.drop_append, List.drop_eq_nil_of_le (by rw [bsP_length]; omega), List.nil_append, bsP_length, show 8 * i - 8 * n = 8 * (i - n) by omega]
  rw [e]
theorem leN_app_zeros : ∀ (l : List UInt8) (n : Nat), leN (l ++ List.replicate n 0) = leN l
 | [], 0 => rfl
 | [], n + 1 => by
  have := leN_app_zeros [] n
  rw [List.nil_append] at this
  rw [List.nil_append, List.replicate_succ]
  simp only [leN, this]
  rfl
 | x :: l, n => by
  simp only [List.cons_append, leN, leN_app_zeros l n]
theorem stF_zeros (p : List UInt8) (n i : Nat) : stF (p ++ List.replicate n 0) i = stF p i := by
 unfold stF
 by_cases h : 8 * i ≤ p.length
 ·rw [List.drop_append_of_le_length h, List.take_append, List.take_replicate]
  exact leN_app_zeros _ _
 ·rw [List.drop_append, List.drop_eq_nil_of_le (show p.length ≤ 8 * i by omega), List.nil_append, List.drop_replicate, List.take_replicate]
  have := leN_app_zeros [] (min 8 (n - (8 * i - p.length)))
  rw [List.nil_append] at this
  rw [this]
  rfl
theorem pad_one (r : Nat) (s : UInt8) (l : List UInt8) (h : l.length + 2 ≤ r) : padL r s l = l ++ (s :: (List.replicate (r - (l.length + 2)) 0 ++ [128])) := by
 have hz : zN r l.length = r - (l.length + 1) := by
  unfold zN
  rw [Nat.mod_eq_of_lt (show l.length + 1 < r by omega), Nat.mod_eq_of_lt (by omega)]
 unfold padL pdP
 rw [hz]
 have e : l ++ [s] ++ List.replicate (r - (l.length + 1)) 0 = l ++ (s :: (List.replicate (r - (l.length + 2)) 0 ++ [0])) := by
  rw [show r - (l.length + 1) = (r - (l.length + 2)) + 1 by omega, List.replicate_succ', List.append_assoc]
  rfl
 have hl : (l ++ (s :: (List.replicate (r - (l.length + 2)) (0 : UInt8) ++ [0]))).length = r := by simp; omega
 have hp : l.length + (r - (l.length + 1)) = l.length + (1 + (r - (l.length + 2))) := by omega
 rw [e, hp]
 have g : (l ++ (s :: (List.replicate (r - (l.length + 2)) (0 : UInt8) ++ [0]))).getD (l.length + (1 + (r - (l.length + 2)))) 0 = 0 := by
  rw [List.getD_eq_getElem?_getD, List.getElem?_append_right (by omega), Nat.add_sub_cancel_left, Nat.add_comm 1, List.getElem?_cons_succ, List.getElem?_append_right (by simp)]
  simp
 rw [g, List.set_append_right _ _ (by omega), Nat.add_sub_cancel_left, Nat.add_comm 1, List.set_cons_succ, List.set_append_right _ _ (by simp)]
 simp
theorem blN_one (r : Nat) (l : List UInt8) (h : l.length + 2 ≤ r) : blN r l = 1 := by
 have hz : zN r l.length = r - (l.length + 1) := by
  unfold zN
  rw [Nat.mod_eq_of_lt (show l.length + 1 < r by omega), Nat.mod_eq_of_lt (by omega)]
 unfold blN
 rw [hz, show l.length + 1 + (r - (l.length + 1)) = r by omega, Nat.div_self (by omega)]
theorem ab_one (r : Nat) (R : Int) (hR : R = (r : Int)) (s : UInt8) (l : List UInt8) (h : l.length + 2 ≤ r) (hr : r ≤ 200) (k : Nat) (hk : k < 25) : abF R s l k = rdsF (stF (padL r s l)) 24 k := by
 subst hR
 have hp : (padL r s l).length = r := by rw [pad_one r s l h]; simp; omega
 unfold abF
 rw [if_pos (by omega), Int.toNat_natCast, blN_one r l h]
 show rdsF (stF (xhP (bsP (abN r (padL r s l) 0) 200) (padL r s l) (0 * r) r)) 24 k = _
 refine rdsF_congr (fun i hi => ?_) 24 k hk
 have e : xhP (bsP (abN r (padL r s l) 0) 200) (padL r s l) (0 * r) r = padL r s l ++ List.replicate (200 - r) 0 := by
  refine List.ext_getElem (by simp [xhP, hp]; omega) fun j h1 h2 => ?_
  have hj : j < 200 := by simpa [xhP] using h1
  have z : (bsP (abN r (padL r s l) 0) 200).getD j 0 = 0 := by
   rw [bsP_get _ _ _ hj]
   show stB 0 _ = 0
   unfold stB
   simp
  simp only [xhP, List.getElem_map, List.getElem_range]
  rw [z]
  by_cases hjr : j < r
  ·rw [if_pos hjr, List.getElem_append_left (by omega)]
   have hj2 : j < (padL r s l).length := by omega
   simp [hj2]
  ·rw [if_neg hjr, List.getElem_append_right (by omega)]
   simp
 rw [e, stF_zeros]
def blk5 (g : Nat → Nat) (x n : Nat) (i : Nat) : Nat := if i < 4 then g i else if i = 4 then x else if i = n then 9223372036854775808 else 0
theorem blk5_lt (g : Nat → Nat) (hg : ∀ i, g i < 18446744073709551616) (x n : Nat) (hx : x < 18446744073709551616) (i : Nat) : blk5 g x n i < 18446744073709551616 := by
 unfold blk5
 split
 ·exact hg i
 ·split
  ·exact hx
  ·split <;> decide
theorem end_lanes (t : List UInt8) (ht : t.length ≤ 7) (z : Nat) (m : Nat) (hm : t.length + z = 8 * m + 7) (hm1 : 1 ≤ m) (i : Nat) : stF (t ++ (List.replicate z 0 ++ [128])) i = if i = 0 then leN t else if i = m then 9223372036854775808 else 0 := by
 have hlen : (t ++ (List.replicate z (0 : UInt8) ++ [128])).length = 8 * m + 8 := by simp; omega
 unfold stF
 by_cases h0 : i = 0
 ·subst h0
  rw [if_pos rfl, Nat.mul_zero, List.drop_zero, List.take_append, List.take_of_length_le (by omega), List.take_append, List.take_replicate, List.length_replicate, show 8 - t.length - z = 0 by omega, List.take_zero, List.append_nil]
  exact leN_app_zeros _ _
 ·rw [if_neg h0, List.drop_append, List.drop_eq_nil_of_le (show t.length ≤ 8 * i by omega), List.nil_append]
  by_cases h1 : i = m
  ·rw [if_pos h1, List.drop_append_of_le_length (by simp; omega), List.drop_replicate, show z - (8 * i - t.length) = 7 by omega]
   decide
  ·rw [if_neg h1]
   by_cases h2 : i < m
   ·rw [List.drop_append_of_le_length (by simp; omega), List.drop_replicate, List.take_append_of_le_length (by simp; omega), List.take_replicate]
    have := leN_app_zeros [] (min 8 (z - (8 * i - t.length)))
    rw [List.nil_append] at this
    rw [this]
    rfl
   ·rw [List.drop_eq_nil_of_le (by simp; omega)]
    rfl
theorem ab_seed (g : Nat → Nat) (hg : ∀ i, g i < 18446744073709551616) (t : List UInt8) (ht : t.length ≤ 6) (s : UInt8) (m : Nat) (hm1 : 1 ≤ m) (hm : m ≤ 20) (R : Int) (hR : R = ((8 * m + 40 : Nat) : Int)) (k : Nat) (hk : k < 25) :
  abF R s (bsP g 32 ++ t) k = rdsF (blk5 g (leN (t ++ [s])) (m + 4)) 24 k := by
 have hl : (bsP g 32 ++ t).length = 32 + t.length := by rw [List.length_append, bsP_length]
 rw [ab_one (8 * m + 40) R hR s _ (by rw [hl]; omega) (by omega) k hk]
 refine rdsF_congr (fun i hi => ?_) 24 k hk
 rw [pad_one _ _ _ (by rw [hl]; omega), hl]
 have e : bsP g 32 ++ t ++ (s :: (List.replicate (8 * m + 40 - (32 + t.length + 2)) 0 ++ [128])) = bsP g (8 * 4) ++ ((t ++ [s]) ++ (List.replicate (8 * m + 40 - (32 + t.length + 2)) 0 ++ [128])) := by
  rw [List.append_assoc, List.append_assoc]
  rfl
 rw [e, stF_append g hg]
 unfold blk5
 by_cases h4 : i < 4
 ·rw [if_pos h4, if_pos h4]
 ·rw [if_neg h4, if_neg h4, end_lanes (t ++ [s]) (by simp; omega) _ m (by simp; omega) hm1]
  by_cases h5 : i = 4
  ·rw [if_pos (by omega), if_pos h5]
  ·rw [if_neg (by omega), if_neg h5]
   by_cases h6 : i = m + 4
   ·rw [if_pos (by omega), if_pos h6]
   ·rw [if_neg (by omega), if_neg h6]
end Go.Proofs.YtmhbjaampobcbaaGreatDoor
