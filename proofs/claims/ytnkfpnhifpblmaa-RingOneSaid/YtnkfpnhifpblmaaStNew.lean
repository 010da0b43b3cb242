/- A new store; a row of the call's own as a block that is known whole. -/
import Derived.Test.YtnkfpnhifpblmaaSt
import Derived.Deep.RegionHeld3
import Derived.Deep.OwnRows
import Derived.Maps.AppendAt
import Derived.Deep.AppendLies
import Derived.WalkSpells
namespace Go.Proofs.Ytnkfpnhifpblmaa
open Go.ChangeShapes Go.WideShapes Go.ChangeAt Go.RowKit

theorem Try.infoU64 : (Try.prog.info? 58).map (fun i => (i.zero, i.size, i.bytes)) = some (some (.int .u64 0), 1, 8) := by kernel_rfl

/-- the value v is a pointer to a store that was made since w -/
def Fresh (T : TypeId) (w w' : World) (v : Value) (xs : List Int) (c : Int) : Prop :=
  ∃ p b, v = .pointer (some ⟨p, 0, none⟩) ∧ St T w' p b xs c ∧ w.heap.size ≤ p ∧ w.heap.size ≤ b ∧ Below w.heap.size w w'

theorem made_zero (n : Nat) : (madeCells #[Value.int .u64 0] n).toList = (List.replicate n (0 : Int)).map (Value.int .u64) ++ [] := by
  rw [toList_madeCells_one]
  simp

theorem new_no (n : Int) (h : n < 0 ∨ 1048576 < n) (w : World) :
    Calls Try.prog 6 #[.int .i64 n] w fun e w' => e = .returned (.tuple #[.pointer none, er 2]) ∧ w = w' := by
  rw [er_yes (by omega)]
  have h' : n < 0 ∨ 0 ≤ n ∧ 1048576 < n := by omega
  clear h
  rcases h' with h | ⟨h, h'⟩
  all_goals
    go_enter Try.func6, Try.ntmps6
    go_wp2
    go_ret2
    exact ⟨rfl, rfl⟩

theorem new_yes (n : Nat) (h : n ≤ 1048576) (w : World) :
    Calls Try.prog 6 #[.int .i64 n] w fun e w' => ∃ v, e = .returned (.tuple #[v, .nilIface]) ∧ Fresh 51 w w' v (List.replicate n 0) 0 := by
  have hmk := run_make_row' (P := Try.prog) 49 58 (.int .u64 0) 8 Try.underlying49 Try.infoU64 rfl .i64 .i64 n (by omega) (by omega)
  have hl := Lies.made w 58 (madeCells #[Value.int .u64 0] n)
  have hl2 := Lies.made (w.alloc (.cells (madeCells #[Value.int .u64 0] n) 58)) 51 #[.slice (some ⟨w.heap.size, 0, none⟩) n n, .int .i64 0]
  have hl1 := hl.alloc (.cells #[.slice (some ⟨w.heap.size, 0, none⟩) n n, .int .i64 0] 51)
  rw [made_zero] at hl1
  have HH := Lib.hid hl1
  have HH2 := Lib.hid hl2
  clear hl hl1 hl2
  go_enter Try.func6, Try.ntmps6
  go_wp2
  go_ret2
  refine ⟨_, rfl, w.heap.size + 1, w.heap.size, rfl, ⟨n, [], by simp, ?_, HH.out⟩, by omega, by omega, ((Below.refl _ _).alloc (by omega) _).alloc (by simp) _⟩
  have := HH2.out
  simpa using this

theorem Lies.of_own {w : World} {base : Nat} {e : TypeId} {v : Value} {n : Nat} {xs : List Value} (h : w.ownsRow base e 1 v n xs) (hv : v ≠ .slice none 0 0) :
    ∃ g cap rest, v = .slice (some ⟨g, 0, none⟩) n cap ∧ base ≤ g ∧ n ≤ cap ∧ Lies w g e (xs ++ rest) := by
  rcases h.2 with ⟨h0, _⟩ | ⟨g, cap, cur, hv, hb, hg, hn, _, hs, ht⟩
  · exact absurd h0 hv
  · refine ⟨g, cap, cur.toList.drop (n * 1), hv, hb, hn, ?_⟩
    unfold Lies
    rw [← ht, List.take_append_drop, Array.toArray_toList]
    exact hg

end Go.Proofs.Ytnkfpnhifpblmaa
