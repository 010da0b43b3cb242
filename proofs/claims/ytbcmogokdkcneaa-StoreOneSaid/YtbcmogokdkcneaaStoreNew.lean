/- A new store, and a copy of one: what the calls give that make memory. -/
import Derived.Test.YtbcmogokdkcneaaStoreCalls
import Derived.Deep.RegionHeld3
import Derived.Deep.OwnRows
import Derived.Maps.AppendAt
import Derived.Deep.AppendLies
import Derived.WalkSpells
namespace Go.Proofs.Ytbcmogokdkcneaa
open Go.ChangeShapes Go.WideShapes Go.ChangeAt Go.RowKit

theorem Try.infoU64 : (Try.prog.info? 34).map (fun i => (i.zero, i.size, i.bytes)) = some (some (.int .u64 0), 1, 8) := by kernel_rfl

/-- the value v is a pointer to a store that was made since w -/
def Fresh (T : TypeId) (w w' : World) (v : Value) (xs : List Int) (c : Int) : Prop :=
  ∃ p b, v = .pointer (some ⟨p, 0, none⟩) ∧ St T w' p b xs c ∧ w.heap.size ≤ p ∧ w.heap.size ≤ b ∧ Below w.heap.size w w'

theorem made_zero (n : Nat) : (madeCells #[Value.int .u64 0] n).toList = (List.replicate n (0 : Int)).map (Value.int .u64) ++ [] := by
  rw [toList_madeCells_one]
  simp

theorem new_no (n : Int) (h : n < 0 ∨ 1048576 < n) (w : World) :
    Calls Try.prog 9 #[.int .i64 n] w fun e w' => e = .returned (.tuple #[.pointer none, er 2]) ∧ w = w' := by
  rw [er_yes (by omega)]
  have h' : n < 0 ∨ 0 ≤ n ∧ 1048576 < n := by omega
  clear h
  rcases h' with h | ⟨h, h'⟩
  all_goals
    go_enter Try.func9, Try.ntmps9
    go_wp2
    go_ret2
    exact ⟨rfl, rfl⟩

theorem new_yes (n : Nat) (h : n ≤ 1048576) (w : World) :
    Calls Try.prog 9 #[.int .i64 n] w fun e w' => ∃ v, e = .returned (.tuple #[v, .nilIface]) ∧ Fresh 56 w w' v (List.replicate n 0) 0 := by
  have hmk := run_make_row' (P := Try.prog) 31 34 (.int .u64 0) 8 Try.underlying31 Try.infoU64 rfl .i64 .i64 n (by omega) (by omega)
  have hl := Lies.made w 34 (madeCells #[Value.int .u64 0] n)
  have hl2 := Lies.made (w.alloc (.cells (madeCells #[Value.int .u64 0] n) 34)) 56 #[.slice (some ⟨w.heap.size, 0, none⟩) n n, .int .i64 0]
  have hl1 := hl.alloc (.cells #[.slice (some ⟨w.heap.size, 0, none⟩) n n, .int .i64 0] 56)
  rw [made_zero] at hl1
  have HH := Lib.hid hl1
  have HH2 := Lib.hid hl2
  clear hl hl1 hl2
  go_enter Try.func9, Try.ntmps9
  go_wp2
  go_ret2
  refine ⟨_, rfl, w.heap.size + 1, w.heap.size, rfl, ⟨n, [], by simp, ?_, HH.out⟩, by omega, by omega, ((Below.refl _ _).alloc (by omega) _).alloc (by simp) _⟩
  have := HH2.out
  simpa using this

theorem Lies.of_own {w : World} {base : Nat} {e : TypeId} {v : Value} {n : Nat} {xs : List Value} (h : w.ownsRow base e 1 v n xs) (hv : v ≠ .slice none 0 0) :
    ∃ g cap rest, v = .slice (some ⟨g, 0, none⟩) n cap ∧ base ≤ g ∧ n ≤ cap ∧ Lies w g e (xs ++ rest) := by
  rcases h.2 with ⟨h0, _⟩ | ⟨g, cap, cur, hv, hb, hg, hn, _, hs, ht⟩
  · exact absurd h0 hv
  · refine ⟨g, cap, cur.toList.drop (n * 1), hv, hb, hn, ?_⟩
    unfold Lies
    rw [← ht, List.take_append_drop, Array.toArray_toList]
    exact hg

/-- slices.Clone of words that lie whole: words of a block of their own -/
theorem clone_any (b cap : Nat) (xs : List Int) (rest : List Value) (w : World) (hx : xs.length ≤ 1048576) (hl : Lies w b 34 (xs.map (Value.int .u64) ++ rest)) :
    Calls Try.prog 21 #[.slice (some ⟨b, 0, none⟩) xs.length cap] w fun e w' =>
      ∃ g cap' rest', e = .returned (.slice (some ⟨g, 0, none⟩) xs.length cap') ∧ xs.length ≤ cap' ∧ Lies w' g 34 (xs.map (Value.int .u64) ++ rest') ∧ w.heap.size ≤ g ∧ Below w.heap.size w w' := by
  obtain ⟨i0, hi, hz0, hz1, hz2⟩ := info_parts Try.infoU64
  have hnews : ∀ j u, (xs.map (Value.int .u64))[j]? = some u → (w.alloc (.cells #[] 34)).cell? ((⟨b, 0, none⟩ : Addr).add j) = some u := by
    intro j u hj
    have : (⟨b, 0, none⟩ : Addr).add j = ⟨b, j, none⟩ := by unfold Addr.add; split <;> simp_all
    rw [this, (hl.alloc _).cell, List.getElem?_append_left (List.getElem?_eq_some_iff.1 hj).1, hj]
  have h1 : ∀ u ∈ xs.map (Value.int .u64), u.oneCell' = true := by
    intro u hu
    obtain ⟨x, _, rfl⟩ := List.mem_map.1 hu
    rfl
  have HN := Lib.hid hnews
  have H1 := Lib.hid h1
  clear hnews h1 hl
  have hnn := fun (w : World) => Lib.run_eql_slice_nil (P := Try.prog) w 31 34 (some ⟨b, 0, none⟩) xs.length cap 0 0 Try.underlying31
  go_enter Try.func21, Try.ntmps21
  go_wp2_with (
    at_builtin
    refine wpList_append_own_at _ rfl _ _ 31 rfl w.heap.size 34 i0 (.int .u64 0) 1 8 Try.underlying31 hi hz0 hz1 hz2 rfl (by decide) (.slice (some ⟨w.heap.size, 0, none⟩) 0 0) 0 [] rfl (World.ownsRow_made w #[] 0 (Nat.le_refl _) (by decide) rfl) ⟨b, 0, none⟩ xs.length cap (xs.map (.int .u64)) rfl (by simp) HN.out H1.out (by unfold maxLen; omega) (by omega) (by simp) ?_
    intro v1 w1 hown hgrow hnil hat)
  go_ret
  obtain ⟨g, cap', rest', rfl, hg, hc, hL⟩ := Lies.of_own hown (fun h => absurd (hnil.1 h).1 (by simp))
  refine ⟨g, cap', rest', by simp, by omega, by simpa using hL, hg, ((Below.refl _ _).alloc (Nat.le_refl _) _).grown hgrow (by simp) (fun k hk => ?_)⟩
  simp [Value.ownBlock] at hk
  omega

theorem copy_nil (w : World) :
    Calls Try.prog 15 #[.pointer none] w fun e w' => e = .returned (.pointer none) ∧ w = w' := by
  go_enter Try.func15, Try.ntmps15
  go_wp2
  go_ret
  exact ⟨rfl, rfl⟩

set_option maxHeartbeats 400000 in
theorem copy_any (p b : Nat) (xs : List Int) (c : Int) (w : World) (hs : St 56 w p b xs c) (hx : xs.length ≤ 1048576) :
    Calls Try.prog 15 #[.pointer (some ⟨p, 0, none⟩)] w fun e w' => ∃ v, e = .returned v ∧ Fresh 56 w w' v xs c := by
  obtain ⟨hp, hb⟩ := hs.lt
  obtain ⟨cap, rest, hc, l0, l1⟩ := hs
  have c0 : w.cell? ⟨p, 0, none⟩ = some (.slice (some ⟨b, 0, none⟩) xs.length cap) := l0.cell 0
  have c1 : w.cell? ⟨p, 1, none⟩ = some (.int .i64 c) := l0.cell 1
  have L1 := Lib.hid l1
  clear l0 l1
  go_enter Try.func15, Try.ntmps15
  go_wp2
  go_region_held3 (fun w' => w'.cell? ⟨p, 0, none⟩ = some (.slice (some ⟨b, 0, none⟩) xs.length cap) ∧ w'.cell? ⟨p, 1, none⟩ = some (.int .i64 c)) (go_keep)
    ((go_at_call 21; refine (clone_any b cap xs rest _ hx (by exact L1.out)).mono ?_; rintro e w1 ⟨g, cap', rest', rfl, hc', hL, hg, hw⟩; have k0 : w1.cell? ⟨p, 0, none⟩ = some (.slice (some ⟨b, 0, none⟩) xs.length cap) := (hw.cell hp).trans c0; have k1 : w1.cell? ⟨p, 1, none⟩ = some (.int .i64 c) := (hw.cell hp).trans c1))
  go_wp2
  go_ret
  refine ⟨_, rfl, w1.heap.size, g, rfl, ⟨cap', rest', hc', Lies.made w1 _ _, (hL.alloc _).drew⟩, ?_, hg, (below_of_drew hw).alloc ?_ _⟩
  · exact hw.size
  · exact hw.size
end Go.Proofs.Ytbcmogokdkcneaa
