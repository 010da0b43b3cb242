/- What package read finds right: a kind, all of a datum, its parts; Check. -/
import Derived.Test.YtbomodendobnkaaGreatQ28
namespace Go.Proofs.YtbomodendobnkaaGreat
open Go.ChangeShapes Go.WideShapes Go.ChangeAt Go.RowKit

theorem emp_yes {S : ByteArray} (h : S.data.toList = []) : S = ⟨#[]⟩ := by
  cases S; rename_i d; cases d; simp at h; rw [h]
end Go.Proofs.YtbomodendobnkaaGreat
