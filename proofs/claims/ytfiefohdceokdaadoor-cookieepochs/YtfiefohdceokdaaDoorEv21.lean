/- The codes that the law of layer 21 asks for to be awake: of one secret, two periods and two sources. No program's text is named. -/
import Derived.Test.YtfiefohdceokdaaDoorSForce
import Derived.Test.YtfiefohdceokdaaDoorCkMath
namespace Go.Proofs.YtfiefohdceokdaaDoor
set_option linter.unusedVariables false

def hr21 : List UInt8 := [104, 101, 114, 101]
def th21 : List UInt8 := [116, 104, 101, 114, 101]
def pk21 : List UInt8 := [112, 97, 99, 107, 101, 116]
def vk221 : List UInt8 := [119, 128, 161, 67, 163, 136, 63, 133, 133, 0, 172, 2, 220, 120, 245, 41, 167, 212, 160, 250, 131, 67, 228, 229, 14, 77, 91, 224, 54, 49, 85, 73]
def vk121 : List UInt8 := [89, 93, 111, 63, 164, 99, 49, 194, 115, 213, 251, 227, 118, 243, 208, 73, 203, 193, 120, 136, 168, 0, 43, 123, 111, 171, 45, 125, 165, 99, 52, 120]
def vch21 : List UInt8 := [169, 89, 87, 214, 213, 215, 124, 198, 10, 238, 210, 224, 217, 20, 41, 115, 98, 87, 7, 151, 123, 42, 167, 118, 206, 108, 118, 75, 57, 172, 74, 81]
def vct21 : List UInt8 := [34, 117, 206, 173, 94, 232, 118, 40, 219, 192, 208, 120, 229, 255, 15, 248, 165, 47, 225, 34, 122, 245, 43, 158, 204, 27, 61, 37, 219, 53, 74, 110]
def vc121 : List UInt8 := [144, 200, 80, 185, 196, 81, 72, 64, 94, 77, 167, 75, 83, 170, 5, 164, 116, 73, 152, 185, 16, 92, 153, 120, 223, 193, 8, 187, 156, 188, 13, 225]
def vs121 : List UInt8 := [160, 96, 148, 181, 66, 95, 224, 99, 34, 204, 252, 49, 222, 202, 222, 209, 201, 196, 33, 107, 218, 223, 217, 173, 182, 136, 116, 191, 175, 209, 127, 101]
def vs221 : List UInt8 := [5, 110, 108, 159, 48, 98, 247, 252, 76, 193, 19, 104, 249, 229, 67, 92, 142, 75, 151, 28, 242, 102, 169, 190, 170, 136, 39, 33, 36, 158, 10, 206]
def vs321 : List UInt8 := [234, 55, 232, 189, 22, 95, 196, 178, 181, 132, 225, 125, 220, 37, 15, 104, 237, 151, 41, 116, 112, 113, 6, 199, 178, 225, 2, 140, 228, 54, 43, 117]
theorem vk221_on : mcG [1] ((List.range 8).map (stB 2)) (fun c => decide (c = vk221)) = true := by decide +kernel
theorem vk221_is : mcF [1] ((List.range 8).map (stB 2)) = vk221 := by
  have h := vk221_on
  rw [mcG_eq] at h
  exact of_decide_eq_true h
theorem vk121_on : mcG [1] ((List.range 8).map (stB 1)) (fun c => decide (c = vk121)) = true := by decide +kernel
theorem vk121_is : mcF [1] ((List.range 8).map (stB 1)) = vk121 := by
  have h := vk121_on
  rw [mcG_eq] at h
  exact of_decide_eq_true h
theorem vch21_on : mcG vk221 hr21 (fun c => decide (c = vch21)) = true := by decide +kernel
theorem vch21_is : mcF vk221 hr21 = vch21 := by
  have h := vch21_on
  rw [mcG_eq] at h
  exact of_decide_eq_true h
theorem vct21_on : mcG vk221 th21 (fun c => decide (c = vct21)) = true := by decide +kernel
theorem vct21_is : mcF vk221 th21 = vct21 := by
  have h := vct21_on
  rw [mcG_eq] at h
  exact of_decide_eq_true h
theorem vc121_on : mcG vk121 th21 (fun c => decide (c = vc121)) = true := by decide +kernel
theorem vc121_is : mcF vk121 th21 = vc121 := by
  have h := vc121_on
  rw [mcG_eq] at h
  exact of_decide_eq_true h
theorem vs121_on : mcG (vch21.take 16) pk21 (fun c => decide (c = vs121)) = true := by decide +kernel
theorem vs121_is : mcF (vch21.take 16) pk21 = vs121 := by
  have h := vs121_on
  rw [mcG_eq] at h
  exact of_decide_eq_true h
theorem vs221_on : mcG (vct21.take 16) pk21 (fun c => decide (c = vs221)) = true := by decide +kernel
theorem vs221_is : mcF (vct21.take 16) pk21 = vs221 := by
  have h := vs221_on
  rw [mcG_eq] at h
  exact of_decide_eq_true h
theorem vs321_on : mcG (vc121.take 16) pk21 (fun c => decide (c = vs321)) = true := by decide +kernel
theorem vs321_is : mcF (vc121.take 16) pk21 = vs321 := by
  have h := vs321_on
  rw [mcG_eq] at h
  exact of_decide_eq_true h
theorem sg21_here : sgC (ckL [1] 2 hr21) pk21 = vs121.take 16 := by unfold sgC ckL; rw [vk221_is, vch21_is, vs121_is]
theorem sg21_there : sgC (ckL [1] 2 th21) pk21 = vs221.take 16 := by unfold sgC ckL; rw [vk221_is, vct21_is, vs221_is]
theorem sg21_then : sgC (ckL [1] 1 th21) pk21 = vs321.take 16 := by unfold sgC ckL; rw [vk121_is, vc121_is, vs321_is]
/-- What is valid here isn't so there. -/
theorem va21_there : vaB [1] 25 10 th21 pk21 (sgC (ckL [1] 2 hr21) pk21) = false := by
  unfold vaB
  rw [show epN 25 10 = 2 from rfl, sg21_here, sg21_there, show 2 - 1 = 1 from rfl, sg21_then]
  decide
theorem va21_here : vaB [1] 25 10 hr21 pk21 (sgC (ckL [1] 2 hr21) pk21) = true := by
  unfold vaB
  rw [show epN 25 10 = 2 from rfl]
  simp
end Go.Proofs.YtfiefohdceokdaaDoor
