/- Slices that the call itself has made: bytes; tokens. -/
import Derived.Test.YtbkjmmeipbbaaaaDoorOwnA
import Derived.Test.YtbkjmmeipbbaaaaDoorLexMath
import Derived.Maps.AppendAt
import Derived.Deep.AppendLies
import Derived.Laws.OwnMore
import Derived.Laws.BytesString
import Derived.Lib.UnsafeStr
import Derived.WalkKit
import Derived.WalkSpells
import Derived.RegionTactic
import Derived.OwnWalk
import Derived.Test.YtbkjmmeipbbaaaaDoorRows
namespace Go.Proofs.YtbkjmmeipbbaaaaDoor
open Go.RowKit

/-! ### bytes -/
theorem Tryd.infoByte : (Tryd.prog.info? 5).map (fun i => (i.zero, i.size, i.bytes)) = some (some (.int .u8 0), 1, 1) := by kernel_rfl
/-- v is a slice of just these bytes, nil or in a block of its own from B on -/
def OwnB (w : World) (B : Nat) (v : Value) (l : List UInt8) : Prop := w.ownsRow B 5 1 v l.length (Lib.byteCells l)
theorem OwnB.none_ (w : World) (B : Nat) : OwnB w B (.slice none 0 0) [] := own_none w B _ 1
theorem OwnB.read {w : World} {B : Nat} {v : Value} {l : List UInt8} (h : OwnB w B v l) : ∃ A c, v = .slice A l.length c := by
  obtain ⟨A, c, e, _⟩ := own_read h; exact ⟨A, c, e⟩
theorem byte_push (l : List UInt8) (c : UInt8) : Lib.byteCells l ++ [Value.int .u8 (c.toNat : Int)] = Lib.byteCells (l ++ [c]) := by simp [Lib.byteCells]
theorem fold_bytes : ∀ (l : List UInt8) (r : ByteArray), ((l.map (fun c => (c.toNat : Int))).foldl (fun (r : ByteArray) n => r.push (UInt8.ofNat n.toNat)) r).data.toList = r.data.toList ++ l
  | [], r => by simp
  | x :: l, r => by
    rw [List.map_cons, List.foldl_cons, fold_bytes l]
    simp [ByteArray.push]
theorem bytes_ext {a b : ByteArray} (h : a.data.toList = b.data.toList) : a = b := by
  cases a; cases b; congr; exact Array.toList_inj.1 h
theorem OwnB.conv {w : World} {B : Nat} {v : Value} {l : List UInt8} (h : OwnB w B v l) :
    (convert 92 9 v).run Tryd.prog w = .ok (.string ⟨l.toArray⟩) w := by
  obtain ⟨A, c, rfl, hr⟩ := own_read h
  rw [run_convert_bytes_string _ _ _ 5 _ _ _ Tryd.underlying92 Tryd.underlying5 Tryd.underlying9]
  cases A with
  | none =>
    have hl : l.length = 0 := by
      rcases Nat.eq_zero_or_pos l.length with h0 | h0
      · exact h0
      · obtain ⟨g, hg, _⟩ := hr 0 (by omega); cases hg
    have : l = [] := List.eq_nil_of_length_eq_zero hl
    subst this
    simp [Conv.bytesToString]
    rfl
  | some a =>
    have := run_bytesToString (P := Tryd.prog) w a l.length c (l.map (fun c => (c.toNat : Int))) (by
      have h2 := run_loadCells_list (P := Tryd.prog) (w := w) a (Lib.byteCells l) (fun j v hj => by
        have hjl : j < l.length := by have := (List.getElem?_eq_some_iff.1 hj).1; simpa [Lib.byteCells] using this
        obtain ⟨g, hg, _, _, hc⟩ := hr j (by omega)
        cases hg
        have hadd : (⟨g, 0, none⟩ : Addr).add j = ⟨g, j, none⟩ := by unfold Addr.add; split <;> simp_all
        rw [hadd, hc, hj])
      rw [Lib.byteCells_length] at h2
      rw [h2]
      simp [Lib.byteCells])
    rw [this]
    congr 2
    apply bytes_ext
    rw [fold_bytes]
    rfl

/-! ### tokens -/
def tcs (t : LM.Tv) : List Value := [.int .i64 t.k, .int .i64 t.n, .string ⟨t.s.toArray⟩, .int .i64 t.line, .int .i64 t.col, .int .i64 (t.next : Nat)]
theorem flat_at : ∀ (l : List LM.Tv) (i j : Nat) (t : LM.Tv), l[i]? = some t → j < 6 → (l.flatMap tcs)[i * 6 + j]? = (tcs t)[j]?
  | [], i, j, t, h, _ => by simp at h
  | x :: l, 0, j, t, h, hj => by
    simp at h; subst h
    rw [List.flatMap_cons, List.getElem?_append_left (by simp [tcs]; omega)]; simp
  | x :: l, i + 1, j, t, h, hj => by
    have hl : (tcs x).length = 6 := rfl
    rw [List.flatMap_cons, List.getElem?_append_right (by omega), hl, show (i + 1) * 6 + j - 6 = i * 6 + j by omega]
    exact flat_at l i j t (by simpa using h) hj
end Go.Proofs.YtbkjmmeipbbaaaaDoor
