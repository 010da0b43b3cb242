/- The closed answers that the laws of layer 7 ask for. No dump is read here. -/
import Derived.Test.YtfabafolbelhdaaDoorLexMathC
namespace Go.Proofs.YtfabafolbelhdaaDoor.LM
def txt0 : List UInt8 := [40, 97, 32, 45, 49, 50, 32, 35, 116, 41]
def tv0 : List Tv := [⟨1, 0, [], 1, 1, 1⟩, ⟨13, 0, [97], 1, 2, 2⟩, ⟨9, -12, [], 1, 4, 6⟩, ⟨10, 1, [], 1, 8, 9⟩, ⟨2, 0, [], 1, 10, 10⟩]
theorem alls0 : alls 11 txt0 0 1 1 = (tv0, (0, 0, 0)) := by kernel_rfl
theorem nx1 : nx [35, 92, 115, 112, 97, 99, 101] 1 1 = ⟨tok 11 32 [] 7, 1, 1, 7⟩ := by kernel_rfl
theorem nx2 : nx [32, 35, 120] 1 1 = ⟨bad 6, 1, 2, 1⟩ := by kernel_rfl
theorem sym1 : sym [49, 43] = true := by kernel_rfl
theorem sym2 : sym [49, 50] = false := by kernel_rfl
end Go.Proofs.YtfabafolbelhdaaDoor.LM
