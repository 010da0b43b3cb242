/- What the document's own small answers for layer 7 are. -/
import Derived.Test.YtpiekdcbjkgipaaQ16
import Derived.Test.YtpiekdcbjkgipaaQ17
namespace Go.Proofs.Ytpiekdcbjkgipaa
open Go.ChangeShapes Go.WideShapes Go.ChangeAt Go.RowKit

theorem okd_of {t : ByteArray} (hd : FM.digs t.data.toList = true) : FM.okd t.data.toList = decide (1 ≤ t.size ∧ t.size ≤ 30) := by
  unfold FM.okd; rw [hd, size_len, Bool.and_true]
theorem okd_not {t : ByteArray} (hd : FM.digs t.data.toList = false) : FM.okd t.data.toList = false := by
  unfold FM.okd; rw [hd, Bool.and_false]
/-- no byte of a name -/
theorem nmb_no {x : Int} (h : LM.nmb x = false) : x < 33 ∨ 126 < x ∨ x = 40 ∨ x = 41 ∨ x = 34 ∨ x = 59 ∨ x = 39 ∨ x = 44 ∨ x = 96 ∨ x = 35 := by
  unfold LM.nmb at h; simp at h; omega
theorem nmb_yes {x : Int} (h : LM.nmb x = true) : 33 ≤ x ∧ x ≤ 126 ∧ (x == 40) = false ∧ (x == 41) = false ∧ (x == 34) = false ∧ (x == 59) = false ∧ (x == 39) = false ∧ (x == 44) = false ∧ (x == 96) = false ∧ (x == 35) = false := by
  unfold LM.nmb at h; simp at h ⊢; omega
end Go.Proofs.Ytpiekdcbjkgipaa
