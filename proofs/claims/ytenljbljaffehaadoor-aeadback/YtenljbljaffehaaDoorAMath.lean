/- What is sealed, and its tag: plain words over the blocks, streams and codes. No program's text is named. -/
import Derived.Test.YtenljbljaffehaaDoorQMath
import Derived.Test.YtenljbljaffehaaDoorPMath
import Derived.Test.YtenljbljaffehaaDoorLib
namespace Go.Proofs.YtenljbljaffehaaDoor
set_option linter.unusedSimpArgs false
set_option linter.unusedVariables false

/-- How many noughts fill a row up to a multiple of 16. -/
def pd16 (n : Nat) : Nat := (16 - n % 16) % 16
/-- Bytes, up to a multiple of 16. -/
def flL (b : List UInt8) : List UInt8 := b ++ List.replicate (pd16 b.length) 0
theorem pd16_lt (n : Nat) : pd16 n < 16 := Nat.mod_lt _ (by decide)
theorem flL_length (b : List UInt8) : (flL b).length = b.length + pd16 b.length := by simp [flL]
/-- A number in eight bytes. -/
def st8 (n : Nat) : List UInt8 := (List.range 8).map (stB n)
theorem st8_length (n : Nat) : (st8 n).length = 8 := by simp [st8]
/-- What a tag is of. -/
def tgI (ad box : List UInt8) : List UInt8 := flL ad ++ flL box ++ st8 ad.length ++ st8 box.length
theorem tgI_length (ad box : List UInt8) : (tgI ad box).length = ad.length + pd16 ad.length + (box.length + pd16 box.length) + 16 := by
  simp only [tgI, List.length_append, flL_length, st8_length]
/-- The tag. -/
def tgL (key nonce ad box : List UInt8) : List UInt8 := mcP ((bkL key 0 nonce).take 32) (tgI ad box)
/-- What a text is sealed as. -/
def seL (key nonce ad text : List UInt8) : List UInt8 := smL key 1 nonce text ++ tgL key nonce ad (smL key 1 nonce text)
end Go.Proofs.YtenljbljaffehaaDoor
