/- What the calls of package store give that later layers use: the touch, a read, a write; however often it was touched. -/
import Derived.Test.YtagedholocgahaaGreatDoorRows
import Derived.Test.YtagedholocgahaaGreatDoorMem
import Derived.Test.YtagedholocgahaaGreatDoorTRing
import Derived.WalkKit
import Derived.ProofKit
import Derived.OpenShut
import Derived.Deep.QuietTactic
import Derived.BigQuiet
import Derived.Lib.Hide
import Derived.LaidEqlPtr
namespace Go.Proofs.YtagedholocgahaaGreatDoor
open Go.ChangeShapes Go.WideShapes Go.ChangeAt Go.RowKit

theorem ret_i {k : IntKind} {a b : Int} (h : a = b) : Ending.returned (.int k a) = .returned (.int k b) := by rw [h]
theorem ret_b {a b : Bool} (h : a = b) : Ending.returned (.bool a) = .returned (.bool b) := by rw [h]
/-- the error of that kind, or none -/
def er (k : Int) : Value := if k = 0 then .nilIface else .iface 86 (.int .i64 k)
theorem er_no : er 0 = .nilIface := rfl
theorem er_yes {k : Int} (h : k ≠ 0) : er k = .iface 86 (.int .i64 k) := if_neg h

/-- A store of the words xs, touched c times: its struct (of type T) is block p, its words lie in block b. -/
def St (T : TypeId) (w : World) (p b : Nat) (xs : List Int) (c : Int) : Prop :=
  ∃ (cap : Nat) (rest : List Value), xs.length ≤ cap ∧ Lies w p T [.slice (some ⟨b, 0, none⟩) xs.length cap, .int .i64 c] ∧ Lies w b 35 (xs.map (Value.int .u64) ++ rest)

/-- such a store, however often touched -/
def Sto (w : World) (p b : Nat) (xs : List Int) : Prop := ∃ c, St 136 w p b xs c

section
variable {T : TypeId} {w w' : World} {p b : Nat} {xs : List Int} {c : Int}
theorem St.lt (h : St T w p b xs c) : p < w.heap.size ∧ b < w.heap.size := by
  obtain ⟨cap, rest, _, h1, h2⟩ := h
  exact ⟨h1.lt, h2.lt⟩
theorem St.ne (h : St T w p b xs c) (hT : T ≠ 35) : p ≠ b := by
  obtain ⟨cap, rest, _, h1, h2⟩ := h
  exact h1.apart h2 hT
theorem St.turns {X : Nat → Prop} (h : St T w p b xs c) (k : Turns X w w') (hp : ¬ X p) (hb : ¬ X b) : St T w' p b xs c := by
  obtain ⟨cap, rest, hc, h1, h2⟩ := h
  exact ⟨cap, rest, hc, h1.turns k hp, h2.turns k hb⟩
theorem St.counted (h : St T w p b xs c) (hT : T ≠ 35) (c' : Int) : St T (w.setCell ⟨p, 1, none⟩ (.int .i64 c')) p b xs c' := by
  have hne := h.ne hT
  obtain ⟨cap, rest, hc, h1, h2⟩ := h
  exact ⟨cap, rest, hc, h1.stored 1 _, h2.far (p := ⟨p, 1, none⟩) (fun e => hne e.symm) _⟩
theorem St.written (h : St T w p b xs c) (hT : T ≠ 35) {i : Nat} (hi : i < xs.length) (v : Int) : St T (w.setCell ⟨b, i, none⟩ (.int .u64 v)) p b (xs.set i v) c := by
  have hne := h.ne hT
  obtain ⟨cap, rest, hc, h1, h2⟩ := h
  refine ⟨cap, rest, by simpa using hc, by simpa using h1.far (p := ⟨b, i, none⟩) hne _, ?_⟩
  have := h2.stored i (.int .u64 v)
  rwa [List.set_append_left _ _ (by simpa using hi), ← List.map_set] at this
end

theorem touch_nil (i : Int) (w : World) :
    Calls Tryz.prog 106 #[.pointer none, .int .i64 i] w fun e w' => e = .returned (er 1) ∧ w = w' := by
  rw [er_yes (by omega)]
  go_enter Tryz.func106, Tryz.ntmps106
  go_wp2
  go_ret
  exact ⟨rfl, rfl⟩
theorem touch_out (p b : Nat) (xs : List Int) (c i : Int) (w : World) (hs : St 136 w p b xs c) (hi : inside xs.length i = false) :
    Calls Tryz.prog 106 #[.pointer (some ⟨p, 0, none⟩), .int .i64 i] w fun e w' => e = .returned (er 3) ∧ w = w' := by
  rw [er_yes (by omega)]
  obtain ⟨cap, rest, hc, h1, -⟩ := hs
  have c0 : w.cell? ⟨p, 0, none⟩ = some (.slice (some ⟨b, 0, none⟩) xs.length cap) := h1.cell 0
  clear h1
  rcases inside_no hi with h | ⟨h, h'⟩
  all_goals
    clear hi
    go_enter Tryz.func106, Tryz.ntmps106
    go_wp2
    go_ret
    exact ⟨rfl, rfl⟩

theorem touch_in (p b : Nat) (xs : List Int) (i : Int) (w : World) (hs : Sto w p b xs) (hi : inside xs.length i = true) :
    Calls Tryz.prog 106 #[.pointer (some ⟨p, 0, none⟩), .int .i64 i] w fun e w' => e = .returned .nilIface ∧ Sto w' p b xs ∧ Turns (· = p) w w' := by
  obtain ⟨c, hs⟩ := hs
  have hs' := hs.counted (by decide) (wrap64 (c + 1))
  have ht' := (Turns.refl (· = p) w).setCell (p := ⟨p, 1, none⟩) (fun _ => rfl) (.int .i64 (wrap64 (c + 1)))
  obtain ⟨cap, rest, hc, h1, -⟩ := hs
  have c0 : w.cell? ⟨p, 0, none⟩ = some (.slice (some ⟨b, 0, none⟩) xs.length cap) := h1.cell 0
  have c1 : w.cell? ⟨p, 1, none⟩ = some (.int .i64 c) := h1.cell 1
  have f1 : w.frozen? ⟨p, 1, none⟩ = false := h1.free 1
  clear h1
  obtain ⟨h, h'⟩ := inside_yes hi
  clear hi
  go_enter Tryz.func106, Tryz.ntmps106
  go_wp2
  go_ret
  exact ⟨rfl, ⟨_, hs'⟩, ht'⟩

section
variable {w w' : World} {p b : Nat} {xs : List Int}
theorem Sto.lt (h : Sto w p b xs) : p < w.heap.size ∧ b < w.heap.size := by
  obtain ⟨c, h⟩ := h
  exact h.lt
theorem Sto.turns {X : Nat → Prop} (h : Sto w p b xs) (k : Turns X w w') (hp : ¬ X p) (hb : ¬ X b) : Sto w' p b xs := by
  obtain ⟨c, h⟩ := h
  exact ⟨c, h.turns k hp hb⟩
theorem Sto.drew (h : Sto w p b xs) : Sto w.drew p b xs := h
theorem Sto.drewN (h : Sto w p b xs) (n : Nat) : Sto (w.drewN n) p b xs := h
theorem Sto.ne (h : Sto w p b xs) : p ≠ b := by
  obtain ⟨c, h⟩ := h
  exact h.ne (by decide)
end
theorem nth_word (xs : List Int) (rest : List Value) (n : Nat) (h : n < xs.length) : (xs.map (Value.int .u64) ++ rest)[n]? = some (.int .u64 (xs.getD n 0)) := by
  rw [List.getElem?_append_left (by simpa using h), List.getElem?_map, List.getElem?_eq_getElem h]
  simp [h]

theorem get_in (p b : Nat) (xs : List Int) (i : Int) (w : World) (hs : Sto w p b xs) (hi : inside xs.length i = true) :
    Calls Tryz.prog 74 #[.pointer (some ⟨p, 0, none⟩), .int .i64 i] w fun e w' =>
      e = .returned (.tuple #[.int .u64 (gv xs i), .nilIface]) ∧ Sto w' p b xs ∧ Turns (· = p) w w' := by
  rw [gv, if_pos hi]
  have HH := Lib.hid (touch_in p b xs i w hs hi)
  obtain ⟨h, h'⟩ := inside_yes hi
  obtain ⟨n, rfl⟩ := Int.eq_ofNat_of_zero_le h
  rw [Int.toNat_natCast]
  clear hi
  have hn := nth_word xs
  go_enter Tryz.func74, Tryz.ntmps74
  go_wp2_with (
    go_at_call 106
    refine HH.out.mono ?_
    rintro e w' ⟨rfl, hs1, ht1⟩
    have hs2 := hs1
    obtain ⟨c1, cap1, rest1, hcap1, l0, l1⟩ := hs1
    have k0 : w'.cell? ⟨p, 0, none⟩ = some (.slice (some ⟨b, 0, none⟩) xs.length cap1) := l0.cell 0
    have k1 : w'.cell? ⟨b, n, none⟩ = some (.int .u64 (xs.getD n 0)) := (l1.cell n).trans (hn rest1 n (by omega))
    clear l0 l1 hn)
  go_ret2
  exact ⟨rfl, hs2, ht1⟩

theorem set_in (p b : Nat) (xs : List Int) (i v : Int) (w : World) (hs : Sto w p b xs) (hi : inside xs.length i = true) :
    Calls Tryz.prog 67 #[.pointer (some ⟨p, 0, none⟩), .int .i64 i, .int .u64 v] w fun e w' =>
      e = .returned .nilIface ∧ Sto w' p b (sv xs i v) ∧ Turns (fun k => k = p ∨ k = b) w w' := by
  rw [sv, if_pos hi]
  have HH := Lib.hid (touch_in p b xs i w hs hi)
  obtain ⟨h, h'⟩ := inside_yes hi
  obtain ⟨n, rfl⟩ := Int.eq_ofNat_of_zero_le h
  rw [Int.toNat_natCast]
  clear hi
  have hn := nth_word xs
  go_enter Tryz.func67, Tryz.ntmps67
  go_wp2_with (
    go_at_call 106
    refine HH.out.mono ?_
    rintro e w' ⟨rfl, hs1, ht1⟩
    have hs2 := hs1
    obtain ⟨c1, cap1, rest1, hcap1, l0, l1⟩ := hs1
    have k0 : w'.cell? ⟨p, 0, none⟩ = some (.slice (some ⟨b, 0, none⟩) xs.length cap1) := l0.cell 0
    have k1 : w'.cell? ⟨b, n, none⟩ = some (.int .u64 (xs.getD n 0)) := (l1.cell n).trans (hn rest1 n (by omega))
    have k2 : w'.frozen? ⟨b, n, none⟩ = false := l1.free n
    clear l0 l1 hn)
  go_ret
  obtain ⟨c2, hs2⟩ := hs2
  exact ⟨rfl, ⟨_, hs2.written (by decide) (by omega) v⟩, (ht1.mono fun _ _ e => .inl e).setCell (p := ⟨b, n, none⟩) (fun _ => .inr rfl) _⟩

end Go.Proofs.YtagedholocgahaaGreatDoor
