/- What the document's own parser gives. -/
import Derived.Test.YtbkjmmeipbbaaaaDoorFixRef
import Derived.Test.YtbkjmmeipbbaaaaDoorFixParse
namespace Go.Proofs.YtbkjmmeipbbaaaaDoor
open Go.ChangeShapes Go.WideShapes Go.ChangeAt Go.RowKit

/-- the digits so far: what they come to, or that it is too much -/
def Far (t : ByteArray) (k : Nat) (v : Int) (f : Bool) : Prop :=
  FM.digs (t.data.toList.take k) = true ∧ (f = false ∧ v = FM.val (t.data.toList.take k) ∨ f = true ∧ 1152921504606846980 ≤ FM.val (t.data.toList.take k))
theorem far_start (t : ByteArray) : Far t 0 0 false := ⟨by simp [FM.digs], .inl ⟨rfl, by simp [FM.val]⟩⟩
theorem far_step {t : ByteArray} {k : Nat} {v : Int} {f : Bool} (h : k < t.size) (H : Far t k v f) (h1 : 48 ≤ (t[k].toNat : Int)) (h2 : (t[k].toNat : Int) ≤ 57)
    (hv : v ≤ 115292150460684697) : Far t (k + 1) (v * 10 + ((t[k].toNat : Int) - 48)) f := by
  obtain ⟨hd, hf⟩ := H
  refine ⟨digs_yes_step h hd h1 h2, ?_⟩
  have e : FM.val (t.data.toList.take (k + 1)) = FM.val (t.data.toList.take k) * 10 + ((t[k].toNat : Int) - 48) := by
    rw [FM.take_snoc t k h, FM.val_snoc]
  rw [e]
  rcases hf with ⟨rfl, rfl⟩ | ⟨rfl, hf⟩
  · exact .inl ⟨rfl, rfl⟩
  · exact .inr ⟨rfl, by omega⟩
theorem far_over {t : ByteArray} {k : Nat} {v : Int} {f : Bool} (h : k < t.size) (H : Far t k v f) (h1 : 48 ≤ (t[k].toNat : Int)) (h2 : (t[k].toNat : Int) ≤ 57)
    (hv : 115292150460684697 < v) : Far t (k + 1) ((t[k].toNat : Int) - 48) true := by
  obtain ⟨hd, hf⟩ := H
  refine ⟨digs_yes_step h hd h1 h2, .inr ⟨rfl, ?_⟩⟩
  have e : FM.val (t.data.toList.take (k + 1)) = FM.val (t.data.toList.take k) * 10 + ((t[k].toNat : Int) - 48) := by
    rw [FM.take_snoc t k h, FM.val_snoc]
  rw [e]
  rcases hf with ⟨rfl, rfl⟩ | ⟨rfl, hf⟩ <;> omega
theorem far_not {t : ByteArray} {k : Nat} {v : Int} {f : Bool} (h : k < t.size) (_H : Far t k v f) (h1 : (t[k].toNat : Int) < 48 ∨ 57 < (t[k].toNat : Int)) : FM.okd t.data.toList = false := by
  unfold FM.okd; rw [digs_no_step h h1, Bool.and_false]
theorem far_end {t : ByteArray} {k : Nat} {v : Int} {f : Bool} (h : t.size ≤ k) (H : Far t k v f) (h1 : 1 ≤ t.size) (h2 : t.size ≤ 30) :
    FM.okd t.data.toList = true ∧ (f = false ∧ v = FM.val t.data.toList ∨ f = true ∧ 1152921504606846980 ≤ FM.val t.data.toList) := by
  obtain ⟨hd, hf⟩ := H
  rw [List.take_of_length_le (by rw [size_len]; exact h)] at hf
  refine ⟨?_, hf⟩
  unfold FM.okd; rw [digs_all h hd, size_len, decide_eq_true ⟨h1, h2⟩, Bool.true_and]

/-- the parser's answer behind the sign -/
def ends (ng : Bool) (t : ByteArray) : Int × Int := if FM.okd t.data.toList then FM.bd (if ng then -(FM.val t.data.toList) else FM.val t.data.toList) else (0, 6)
theorem ends_no {ng : Bool} {t : ByteArray} (h : FM.okd t.data.toList = false) : ends ng t = (0, 6) := by unfold ends; rw [h, if_neg (by simp)]
theorem ends_far {ng : Bool} {t : ByteArray} (h : FM.okd t.data.toList = true) (hv : 1152921504606846980 ≤ FM.val t.data.toList) : ends ng t = (0, 11) := by
  unfold ends; rw [h, if_pos rfl, FM.bd, FM.num_mk_no (by cases ng <;> simp <;> omega), if_neg (by simp)]
theorem ends_in {ng : Bool} {t : ByteArray} {v x : Int} (h : FM.okd t.data.toList = true) (hv : v = FM.val t.data.toList) (hx : (if ng then -v else v) = x) : ends ng t = FM.bd x := by
  unfold ends; rw [h, if_pos rfl, ← hv, hx]
theorem parse_ends (s : ByteArray) : FM.parse s.data.toList = ends (FM.neg s.data.toList) (bodyS s) := by
  unfold FM.parse ends FM.sv; rw [(body_data s).1]

end Go.Proofs.YtbkjmmeipbbaaaaDoor
