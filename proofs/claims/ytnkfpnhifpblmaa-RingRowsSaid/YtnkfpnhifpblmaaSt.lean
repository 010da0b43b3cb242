/- What the calls of package store give that later layers use: the touch, a read, a write. -/
import Derived.Test.YtnkfpnhifpblmaaRows
import Derived.Test.YtnkfpnhifpblmaaMem
import Derived.WalkKit
import Derived.ProofKit
import Derived.OpenShut
import Derived.Deep.QuietTactic
import Derived.BigQuiet
import Derived.Lib.Hide
import Derived.LaidEqlPtr
namespace Go.Proofs.Ytnkfpnhifpblmaa
open Go.ChangeShapes Go.WideShapes Go.ChangeAt Go.RowKit

theorem ret_i {k : IntKind} {a b : Int} (h : a = b) : Ending.returned (.int k a) = .returned (.int k b) := by rw [h]
theorem ret_b {a b : Bool} (h : a = b) : Ending.returned (.bool a) = .returned (.bool b) := by rw [h]
/-- the error of that kind, or none -/
def er (k : Int) : Value := if k = 0 then .nilIface else .iface 48 (.int .i64 k)
theorem er_no : er 0 = .nilIface := rfl
theorem er_yes {k : Int} (h : k ≠ 0) : er k = .iface 48 (.int .i64 k) := if_neg h

/-- a place within n words -/
def inside (n : Nat) (i : Int) : Bool := decide (0 ≤ i ∧ i < n)
theorem inside_yes {n : Nat} {i : Int} (h : inside n i = true) : 0 ≤ i ∧ i < n := by simpa [inside] using h
theorem inside_no {n : Nat} {i : Int} (h : inside n i = false) : i < 0 ∨ 0 ≤ i ∧ n ≤ i := by
  have : ¬ (0 ≤ i ∧ i < n) := by simpa [inside] using h
  omega

/-- A store of the words xs, touched c times: its struct (of type T) is block p, its words lie in block b. -/
def St (T : TypeId) (w : World) (p b : Nat) (xs : List Int) (c : Int) : Prop :=
  ∃ (cap : Nat) (rest : List Value), xs.length ≤ cap ∧ Lies w p T [.slice (some ⟨b, 0, none⟩) xs.length cap, .int .i64 c] ∧ Lies w b 58 (xs.map (Value.int .u64) ++ rest)

section
variable {T : TypeId} {w w' : World} {p b : Nat} {xs : List Int} {c : Int}
theorem St.lt (h : St T w p b xs c) : p < w.heap.size ∧ b < w.heap.size := by
  obtain ⟨cap, rest, _, h1, h2⟩ := h
  exact ⟨h1.lt, h2.lt⟩
theorem St.ne (h : St T w p b xs c) (hT : T ≠ 58) : p ≠ b := by
  obtain ⟨cap, rest, _, h1, h2⟩ := h
  exact h1.apart h2 hT
theorem St.turns {X : Nat → Prop} (h : St T w p b xs c) (k : Turns X w w') (hp : ¬ X p) (hb : ¬ X b) : St T w' p b xs c := by
  obtain ⟨cap, rest, hc, h1, h2⟩ := h
  exact ⟨cap, rest, hc, h1.turns k hp, h2.turns k hb⟩
theorem St.counted (h : St T w p b xs c) (hT : T ≠ 58) (c' : Int) : St T (w.setCell ⟨p, 1, none⟩ (.int .i64 c')) p b xs c' := by
  have hne := h.ne hT
  obtain ⟨cap, rest, hc, h1, h2⟩ := h
  exact ⟨cap, rest, hc, h1.stored 1 _, h2.far (p := ⟨p, 1, none⟩) (fun e => hne e.symm) _⟩
theorem St.written (h : St T w p b xs c) (hT : T ≠ 58) {i : Nat} (hi : i < xs.length) (v : Int) : St T (w.setCell ⟨b, i, none⟩ (.int .u64 v)) p b (xs.set i v) c := by
  have hne := h.ne hT
  obtain ⟨cap, rest, hc, h1, h2⟩ := h
  refine ⟨cap, rest, by simpa using hc, by simpa using h1.far (p := ⟨b, i, none⟩) hne _, ?_⟩
  have := h2.stored i (.int .u64 v)
  rwa [List.set_append_left _ _ (by simpa using hi), ← List.map_set] at this
end

theorem touch_nil (i : Int) (w : World) :
    Calls Try.prog 22 #[.pointer none, .int .i64 i] w fun e w' => e = .returned (er 1) ∧ w = w' := by
  rw [er_yes (by omega)]
  go_enter Try.func22, Try.ntmps22
  go_wp2
  go_ret
  exact ⟨rfl, rfl⟩
theorem touch_out (p b : Nat) (xs : List Int) (c i : Int) (w : World) (hs : St 51 w p b xs c) (hi : inside xs.length i = false) :
    Calls Try.prog 22 #[.pointer (some ⟨p, 0, none⟩), .int .i64 i] w fun e w' => e = .returned (er 3) ∧ w = w' := by
  rw [er_yes (by omega)]
  obtain ⟨cap, rest, hc, h1, -⟩ := hs
  have c0 : w.cell? ⟨p, 0, none⟩ = some (.slice (some ⟨b, 0, none⟩) xs.length cap) := h1.cell 0
  clear h1
  rcases inside_no hi with h | ⟨h, h'⟩
  all_goals
    clear hi
    go_enter Try.func22, Try.ntmps22
    go_wp2
    go_ret
    exact ⟨rfl, rfl⟩

theorem touch_in (p b : Nat) (xs : List Int) (c i : Int) (w : World) (hs : St 51 w p b xs c) (hi : inside xs.length i = true) (hc0 : 0 ≤ c) (hc1 : c ≤ 4611686018427387904) :
    Calls Try.prog 22 #[.pointer (some ⟨p, 0, none⟩), .int .i64 i] w fun e w' => e = .returned .nilIface ∧ St 51 w' p b xs (c + 1) ∧ Turns (· = p) w w' := by
  have hs' := hs.counted (by decide) (c + 1)
  have ht' := (Turns.refl (· = p) w).setCell (p := ⟨p, 1, none⟩) (fun _ => rfl) (.int .i64 (c + 1))
  obtain ⟨cap, rest, hc, h1, -⟩ := hs
  have c0 : w.cell? ⟨p, 0, none⟩ = some (.slice (some ⟨b, 0, none⟩) xs.length cap) := h1.cell 0
  have c1 : w.cell? ⟨p, 1, none⟩ = some (.int .i64 c) := h1.cell 1
  have f1 : w.frozen? ⟨p, 1, none⟩ = false := h1.free 1
  clear h1
  obtain ⟨h, h'⟩ := inside_yes hi
  clear hi
  go_enter Try.func22, Try.ntmps22
  go_wp2
  go_ret
  exact ⟨rfl, hs', ht'⟩

/-- the kind of the error of a read or a write at the place i of n words; how many touches it counts; the word that is read; the words behind a write -/
def gk (n : Nat) (i : Int) : Int := if inside n i then 0 else 3
def hit (n : Nat) (i : Int) : Int := if inside n i then 1 else 0
def gv (xs : List Int) (i : Int) : Int := if inside xs.length i then xs.getD i.toNat 0 else 0
def sv (xs : List Int) (i v : Int) : List Int := if inside xs.length i then xs.set i.toNat v else xs
theorem sv_length (xs : List Int) (i v : Int) : (sv xs i v).length = xs.length := by unfold sv; split <;> simp
theorem hit_bd (n : Nat) (i : Int) : 0 ≤ hit n i ∧ hit n i ≤ 1 := by unfold hit; split <;> omega
theorem nth_word (xs : List Int) (rest : List Value) (n : Nat) (h : n < xs.length) : (xs.map (Value.int .u64) ++ rest)[n]? = some (.int .u64 (xs.getD n 0)) := by
  rw [List.getElem?_append_left (by simpa using h), List.getElem?_map, List.getElem?_eq_getElem h]
  simp [h]

theorem get_nil (i : Int) (w : World) :
    Calls Try.prog 21 #[.pointer none, .int .i64 i] w fun e w' => e = .returned (.tuple #[.int .u64 0, er 1]) ∧ w = w' := by
  rw [er_yes (by omega)]
  go_enter Try.func21, Try.ntmps21
  go_wp2_with (go_at_call 22; refine (touch_nil _ _).mono ?_; rw [er_yes (by omega)]; rintro e w' ⟨rfl, rfl⟩)
  go_ret2
  exact ⟨rfl, rfl⟩

theorem get_any (p b : Nat) (xs : List Int) (c i : Int) (w : World) (hs : St 51 w p b xs c) (hc0 : 0 ≤ c) (hc1 : c ≤ 4611686018427387904) :
    Calls Try.prog 21 #[.pointer (some ⟨p, 0, none⟩), .int .i64 i] w fun e w' =>
      e = .returned (.tuple #[.int .u64 (gv xs i), er (gk xs.length i)]) ∧ St 51 w' p b xs (c + hit xs.length i) ∧ Turns (· = p) w w' := by
  cases hi : inside xs.length i
  · rw [gv, gk, hit, if_neg (by simp [hi]), if_neg (by simp [hi]), if_neg (by simp [hi]), er_yes (by omega), Int.add_zero]
    have H := touch_out p b xs c i w hs hi
    rw [er_yes (by omega)] at H
    have HH := Lib.hid H
    clear H hi
    go_enter Try.func21, Try.ntmps21
    go_wp2_with (go_at_call 22; refine HH.out.mono ?_; rintro e w' ⟨rfl, rfl⟩)
    go_ret2
    exact ⟨rfl, hs, Turns.refl _ _⟩
  · rw [gv, gk, hit, if_pos hi, if_pos hi, if_pos hi, er_no]
    obtain ⟨h, h'⟩ := inside_yes hi
    obtain ⟨n, rfl⟩ := Int.eq_ofNat_of_zero_le h
    rw [Int.toNat_natCast]
    have HH := Lib.hid (touch_in p b xs c n w hs hi hc0 hc1)
    clear hi
    have hn := nth_word xs
    go_enter Try.func21, Try.ntmps21
    go_wp2_with (
      go_at_call 22
      refine HH.out.mono ?_
      rintro e w' ⟨rfl, hs1, ht1⟩
      have hs2 := hs1
      obtain ⟨cap1, rest1, hcap1, l0, l1⟩ := hs1
      have k0 : w'.cell? ⟨p, 0, none⟩ = some (.slice (some ⟨b, 0, none⟩) xs.length cap1) := l0.cell 0
      have k1 : w'.cell? ⟨b, n, none⟩ = some (.int .u64 (xs.getD n 0)) := (l1.cell n).trans (hn rest1 n (by omega))
      clear l0 l1 hn)
    go_ret2
    exact ⟨rfl, hs2, ht1⟩

theorem set_nil (i v : Int) (w : World) :
    Calls Try.prog 20 #[.pointer none, .int .i64 i, .int .u64 v] w fun e w' => e = .returned (er 1) ∧ w = w' := by
  rw [er_yes (by omega)]
  go_enter Try.func20, Try.ntmps20
  go_wp2_with (go_at_call 22; refine (touch_nil _ _).mono ?_; rw [er_yes (by omega)]; rintro e w' ⟨rfl, rfl⟩)
  go_ret
  exact ⟨rfl, rfl⟩

theorem set_any (p b : Nat) (xs : List Int) (c i v : Int) (w : World) (hs : St 51 w p b xs c) (hc0 : 0 ≤ c) (hc1 : c ≤ 4611686018427387904) :
    Calls Try.prog 20 #[.pointer (some ⟨p, 0, none⟩), .int .i64 i, .int .u64 v] w fun e w' =>
      e = .returned (er (gk xs.length i)) ∧ St 51 w' p b (sv xs i v) (c + hit xs.length i) ∧ Turns (fun k => k = p ∨ k = b) w w' := by
  cases hi : inside xs.length i
  · rw [sv, gk, hit, if_neg (by simp [hi]), if_neg (by simp [hi]), if_neg (by simp [hi]), er_yes (by omega), Int.add_zero]
    have H := touch_out p b xs c i w hs hi
    rw [er_yes (by omega)] at H
    have HH := Lib.hid H
    clear H hi
    go_enter Try.func20, Try.ntmps20
    go_wp2_with (go_at_call 22; refine HH.out.mono ?_; rintro e w' ⟨rfl, rfl⟩)
    go_ret
    exact ⟨rfl, hs, Turns.refl _ _⟩
  · rw [sv, gk, hit, if_pos hi, if_pos hi, if_pos hi, er_no]
    obtain ⟨h, h'⟩ := inside_yes hi
    obtain ⟨n, rfl⟩ := Int.eq_ofNat_of_zero_le h
    rw [Int.toNat_natCast]
    have HH := Lib.hid (touch_in p b xs c n w hs hi hc0 hc1)
    clear hi
    have hn := nth_word xs
    go_enter Try.func20, Try.ntmps20
    go_wp2_with (
      go_at_call 22
      refine HH.out.mono ?_
      rintro e w' ⟨rfl, hs1, ht1⟩
      have hs2 := hs1
      obtain ⟨cap1, rest1, hcap1, l0, l1⟩ := hs1
      have k0 : w'.cell? ⟨p, 0, none⟩ = some (.slice (some ⟨b, 0, none⟩) xs.length cap1) := l0.cell 0
      have k1 : w'.cell? ⟨b, n, none⟩ = some (.int .u64 (xs.getD n 0)) := (l1.cell n).trans (hn rest1 n (by omega))
      have k2 : w'.frozen? ⟨b, n, none⟩ = false := l1.free n
      clear l0 l1 hn)
    go_ret
    exact ⟨rfl, hs2.written (by decide) (by omega) v, (ht1.mono fun _ _ e => .inl e).setCell (p := ⟨b, n, none⟩) (fun _ => .inr rfl) _⟩

end Go.Proofs.Ytnkfpnhifpblmaa
