/- What the calls of package store give that later layers use: the touch, a read, a write; however often it was touched. -/
import Derived.Test.YtclcnepkgjcmcaaDoorRows
import Derived.Test.YtclcnepkgjcmcaaDoorMem
import Derived.Test.YtclcnepkgjcmcaaDoorTRing
import Derived.WalkKit
import Derived.ProofKit
import Derived.OpenShut
import Derived.Deep.QuietTactic
import Derived.BigQuiet
import Derived.Lib.Hide
import Derived.LaidEqlPtr
import Derived.Test.YtclcnepkgjcmcaaDoorQ1
namespace Go.Proofs.YtclcnepkgjcmcaaDoor
open Go.ChangeShapes Go.WideShapes Go.ChangeAt Go.RowKit

theorem ret_i {k : IntKind} {a b : Int} (h : a = b) : Ending.returned (.int k a) = .returned (.int k b) := by rw [h]
theorem ret_b {a b : Bool} (h : a = b) : Ending.returned (.bool a) = .returned (.bool b) := by rw [h]
/-- the error of that kind, or none -/
def er (k : Int) : Value := if k = 0 then .nilIface else .iface 58 (.int .i64 k)
theorem er_no : er 0 = .nilIface := rfl
theorem er_yes {k : Int} (h : k ≠ 0) : er k = .iface 58 (.int .i64 k) := if_neg h

/-- A store of the words xs, touched c times: its struct (of type T) is block p, its words lie in block b. -/
def St (T : TypeId) (w : World) (p b : Nat) (xs : List Int) (c : Int) : Prop :=
  ∃ (cap : Nat) (rest : List Value), xs.length ≤ cap ∧ Lies w p T [.slice (some ⟨b, 0, none⟩) xs.length cap, .int .i64 c] ∧ Lies w b 36 (xs.map (Value.int .u64) ++ rest)

/-- such a store, however often touched -/
def Sto (w : World) (p b : Nat) (xs : List Int) : Prop := ∃ c, St 101 w p b xs c

section
variable {T : TypeId} {w w' : World} {p b : Nat} {xs : List Int} {c : Int}
theorem St.lt (h : St T w p b xs c) : p < w.heap.size ∧ b < w.heap.size := by
  obtain ⟨cap, rest, _, h1, h2⟩ := h
  exact ⟨h1.lt, h2.lt⟩
theorem St.ne (h : St T w p b xs c) (hT : T ≠ 36) : p ≠ b := by
  obtain ⟨cap, rest, _, h1, h2⟩ := h
  exact h1.apart h2 hT
theorem St.turns {X : Nat → Prop} (h : St T w p b xs c) (k : Turns X w w') (hp : ¬ X p) (hb : ¬ X b) : St T w' p b xs c := by
  obtain ⟨cap, rest, hc, h1, h2⟩ := h
  exact ⟨cap, rest, hc, h1.turns k hp, h2.turns k hb⟩
theorem St.counted (h : St T w p b xs c) (hT : T ≠ 36) (c' : Int) : St T (w.setCell ⟨p, 1, none⟩ (.int .i64 c')) p b xs c' := by
  have hne := h.ne hT
  obtain ⟨cap, rest, hc, h1, h2⟩ := h
  exact ⟨cap, rest, hc, h1.stored 1 _, h2.far (p := ⟨p, 1, none⟩) (fun e => hne e.symm) _⟩
theorem St.written (h : St T w p b xs c) (hT : T ≠ 36) {i : Nat} (hi : i < xs.length) (v : Int) : St T (w.setCell ⟨b, i, none⟩ (.int .u64 v)) p b (xs.set i v) c := by
  have hne := h.ne hT
  obtain ⟨cap, rest, hc, h1, h2⟩ := h
  refine ⟨cap, rest, by simpa using hc, by simpa using h1.far (p := ⟨b, i, none⟩) hne _, ?_⟩
  have := h2.stored i (.int .u64 v)
  rwa [List.set_append_left _ _ (by simpa using hi), ← List.map_set] at this
end

theorem touch_nil (i : Int) (w : World) :
    Calls Tryd.prog 69 #[.pointer none, .int .i64 i] w fun e w' => e = .returned (er 1) ∧ w = w' := by
  rw [er_yes (by omega)]
  go_enter Tryd.func69, Tryd.ntmps69
  go_wp2
  go_ret
  exact ⟨rfl, rfl⟩
theorem touch_out (p b : Nat) (xs : List Int) (c i : Int) (w : World) (hs : St 101 w p b xs c) (hi : inside xs.length i = false) :
    Calls Tryd.prog 69 #[.pointer (some ⟨p, 0, none⟩), .int .i64 i] w fun e w' => e = .returned (er 3) ∧ w = w' := by
  rw [er_yes (by omega)]
  obtain ⟨cap, rest, hc, h1, -⟩ := hs
  have c0 : w.cell? ⟨p, 0, none⟩ = some (.slice (some ⟨b, 0, none⟩) xs.length cap) := h1.cell 0
  clear h1
  rcases inside_no hi with h | ⟨h, h'⟩
  all_goals
    clear hi
    go_enter Tryd.func69, Tryd.ntmps69
    go_wp2
    go_ret
    exact ⟨rfl, rfl⟩

theorem touch_in (p b : Nat) (xs : List Int) (i : Int) (w : World) (hs : Sto w p b xs) (hi : inside xs.length i = true) :
    Calls Tryd.prog 69 #[.pointer (some ⟨p, 0, none⟩), .int .i64 i] w fun e w' => e = .returned .nilIface ∧ Sto w' p b xs ∧ Turns (· = p) w w' := by
  obtain ⟨c, hs⟩ := hs
  have hs' := hs.counted (by decide) (wrap64 (c + 1))
  have ht' := (Turns.refl (· = p) w).setCell (p := ⟨p, 1, none⟩) (fun _ => rfl) (.int .i64 (wrap64 (c + 1)))
  obtain ⟨cap, rest, hc, h1, -⟩ := hs
  have c0 : w.cell? ⟨p, 0, none⟩ = some (.slice (some ⟨b, 0, none⟩) xs.length cap) := h1.cell 0
  have c1 : w.cell? ⟨p, 1, none⟩ = some (.int .i64 c) := h1.cell 1
  have f1 : w.frozen? ⟨p, 1, none⟩ = false := h1.free 1
  clear h1
  obtain ⟨h, h'⟩ := inside_yes hi
  clear hi
  go_enter Tryd.func69, Tryd.ntmps69
  go_wp2
  go_ret
  exact ⟨rfl, ⟨_, hs'⟩, ht'⟩

section
variable {w w' : World} {p b : Nat} {xs : List Int}
theorem Sto.lt (h : Sto w p b xs) : p < w.heap.size ∧ b < w.heap.size := by
  obtain ⟨c, h⟩ := h
  exact h.lt
theorem Sto.turns {X : Nat → Prop} (h : Sto w p b xs) (k : Turns X w w') (hp : ¬ X p) (hb : ¬ X b) : Sto w' p b xs := by
  obtain ⟨c, h⟩ := h
  exact ⟨c, h.turns k hp hb⟩
theorem Sto.drew (h : Sto w p b xs) : Sto w.drew p b xs := h
theorem Sto.drewN (h : Sto w p b xs) (n : Nat) : Sto (w.drewN n) p b xs := h
theorem Sto.ne (h : Sto w p b xs) : p ≠ b := by
  obtain ⟨c, h⟩ := h
  exact h.ne (by decide)
end
theorem nth_word (xs : List Int) (rest : List Value) (n : Nat) (h : n < xs.length) : (xs.map (Value.int .u64) ++ rest)[n]? = some (.int .u64 (xs.getD n 0)) := by
  rw [List.getElem?_append_left (by simpa using h), List.getElem?_map, List.getElem?_eq_getElem h]
  simp [h]

theorem get_in (p b : Nat) (xs : List Int) (i : Int) (w : World) (hs : Sto w p b xs) (hi : inside xs.length i = true) :
    Calls Tryd.prog 75 #[.pointer (some ⟨p, 0, none⟩), .int .i64 i] w fun e w' =>
      e = .returned (.tuple #[.int .u64 (gv xs i), .nilIface]) ∧ Sto w' p b xs ∧ Turns (· = p) w w' := by
  rw [gv, if_pos hi]
  have HH := Lib.hid (touch_in p b xs i w hs hi)
  obtain ⟨h, h'⟩ := inside_yes hi
  obtain ⟨n, rfl⟩ := Int.eq_ofNat_of_zero_le h
  rw [Int.toNat_natCast]
  clear hi
  have hn := nth_word xs
  go_enter Tryd.func75, Tryd.ntmps75
  go_wp2_with (
    go_at_call 69
    refine HH.out.mono ?_
    rintro e w' ⟨rfl, hs1, ht1⟩
    have hs2 := hs1
    obtain ⟨c1, cap1, rest1, hcap1, l0, l1⟩ := hs1
    have k0 : w'.cell? ⟨p, 0, none⟩ = some (.slice (some ⟨b, 0, none⟩) xs.length cap1) := l0.cell 0
    have k1 : w'.cell? ⟨b, n, none⟩ = some (.int .u64 (xs.getD n 0)) := (l1.cell n).trans (hn rest1 n (by omega))
    clear l0 l1 hn)
  go_ret2
  exact ⟨rfl, hs2, ht1⟩

theorem set_in (p b : Nat) (xs : List Int) (i v : Int) (w : World) (hs : Sto w p b xs) (hi : inside xs.length i = true) :
    Calls Tryd.prog 42 #[.pointer (some ⟨p, 0, none⟩), .int .i64 i, .int .u64 v] w fun e w' =>
      e = .returned .nilIface ∧ Sto w' p b (sv xs i v) ∧ Turns (fun k => k = p ∨ k = b) w w' := by
  rw [sv, if_pos hi]
  have HH := Lib.hid (touch_in p b xs i w hs hi)
  obtain ⟨h, h'⟩ := inside_yes hi
  obtain ⟨n, rfl⟩ := Int.eq_ofNat_of_zero_le h
  rw [Int.toNat_natCast]
  clear hi
  have hn := nth_word xs
  go_enter Tryd.func42, Tryd.ntmps42
  go_wp2_with (
    go_at_call 69
    refine HH.out.mono ?_
    rintro e w' ⟨rfl, hs1, ht1⟩
    have hs2 := hs1
    obtain ⟨c1, cap1, rest1, hcap1, l0, l1⟩ := hs1
    have k0 : w'.cell? ⟨p, 0, none⟩ = some (.slice (some ⟨b, 0, none⟩) xs.length cap1) := l0.cell 0
    have k1 : w'.cell? ⟨b, n, none⟩ = some (.int .u64 (xs.getD n 0)) := (l1.cell n).trans (hn rest1 n (by omega))
    have k2 : w'.frozen? ⟨b, n, none⟩ = false := l1.free n
    clear l0 l1 hn)
  go_ret
  obtain ⟨c2, hs2⟩ := hs2
  exact ⟨rfl, ⟨_, hs2.written (by decide) (by omega) v⟩, (ht1.mono fun _ _ e => .inl e).setCell (p := ⟨b, n, none⟩) (fun _ => .inr rfl) _⟩

end Go.Proofs.YtclcnepkgjcmcaaDoor

/- What the calls of package word give that the heap uses. -/
namespace Go.Proofs.YtclcnepkgjcmcaaDoor
open Go.ChangeShapes Go.WideShapes Go.ChangeAt Go.RowKit

theorem number_any (a : Int) (w : World) :
    Calls Tryd.prog 81 #[.int .u64 a] w fun e w' => e = .returned (.int .i64 (WM.nm a)) ∧ w = w' := by
  go_enter Tryd.func81, Tryd.ntmps81
  go_wp2
  go_ret
  exact ⟨rfl, rfl⟩

theorem pack_any (t n : Int) (t0 : 0 ≤ t) (t1 : t < 8) (w : World) :
    Calls Tryd.prog 57 #[.int .u64 t, .int .i64 n] w fun e w' => e = .returned (.int .u64 (WM.mk t n)) ∧ w = w' := by
  have H : bits .or .u64 (IntKind.u64.wrap (IntKind.u64.wrap n * 8)) t = WM.mk t n := by
    have e : IntKind.u64.wrap (IntKind.u64.wrap n * 8) = (n * 8) % 18446744073709551616 := by simp only [IntKind.wrap_u64]; omega
    rw [e, WM.or_low _ t (by omega) (by omega) (by omega) t0 t1]; rfl
  replace H := Lib.hid H
  go_enter Tryd.func57, Tryd.ntmps57
  go_wp2
  go_ret
  exact ⟨ret_i H.out, rfl⟩

theorem holds_any (t n : Int) (t0 : 0 ≤ t) (t1 : t < 8) (w : World) :
    Calls Tryd.prog 56 #[.int .u64 t, .int .i64 n] w fun e w' => e = .returned (.bool (WM.hd t n)) ∧ w = w' := by
  have ht : t = 0 ∨ t = 1 ∨ t = 2 ∨ t = 3 ∨ t = 4 ∨ t = 5 ∨ t = 6 ∨ t = 7 := by omega
  rcases ht with rfl | rfl | rfl | rfl | rfl | rfl | rfl | rfl
  all_goals
    go_enter Tryd.func56, Tryd.ntmps56
    go_wp2
    all_goals
      go_ret
      refine ⟨ret_b ?_, rfl⟩
      simp [WM.hd, WM.least, WM.most] <;> omega
theorem bool_any (b : Bool) (w : World) :
    Calls Tryd.prog 87 #[.bool b] w fun e w' => e = .returned (.int .u64 (if b then 11 else 3)) ∧ w = w' := by
  cases b
  all_goals
    go_enter Tryd.func87, Tryd.ntmps87
    go_wp2_with (go_at_call 57; refine (pack_any _ _ (by omega) (by omega) _).mono ?_; rintro e w' ⟨rfl, rfl⟩)
    go_ret
    exact ⟨rfl, rfl⟩

theorem sole_any (k : Int) (h0 : 0 ≤ k) (h1 : k < 1000) (w : World) :
    Calls Tryd.prog 43 #[.int .i64 k] w fun e w' => e = .returned (.int .u64 (WM.mk 4 (k - 5))) ∧ w = w' := by
  go_enter Tryd.func43, Tryd.ntmps43
  go_wp2_with (go_at_call 57; refine (pack_any _ _ (by omega) (by omega) _).mono ?_; rintro e w' ⟨rfl, rfl⟩)
  go_ret
  exact ⟨rfl, rfl⟩

theorem void_any (w : World) : Calls Tryd.prog 14 #[] w fun e w' => e = .returned (.int .u64 12) ∧ w = w' := by
  go_enter Tryd.func14, Tryd.ntmps14
  go_wp2_with (go_at_call 43; refine (sole_any _ (by omega) (by omega) _).mono ?_; rintro e w' ⟨rfl, rfl⟩)
  go_ret
  exact ⟨rfl, rfl⟩
theorem undef_any (w : World) : Calls Tryd.prog 17 #[] w fun e w' => e = .returned (.int .u64 20) ∧ w = w' := by
  go_enter Tryd.func17, Tryd.ntmps17
  go_wp2_with (go_at_call 43; refine (sole_any _ (by omega) (by omega) _).mono ?_; rintro e w' ⟨rfl, rfl⟩)
  go_ret
  exact ⟨rfl, rfl⟩

/-- what a maker gives: the word, or nothing and the error of that kind -/
def made (k t n : Int) : Value := if WM.hd t n then .tuple #[.int .u64 (WM.mk t n), .nilIface] else .tuple #[.int .u64 0, .iface 58 (.int .i64 k)]

theorem checked_any (t n : Int) (t0 : 0 ≤ t) (t1 : t < 8) (w : World) :
    Calls Tryd.prog 64 #[.int .u64 t, .int .i64 n] w fun e w' => e = .returned (made 2 t n) ∧ w = w' := by
  by_cases h : WM.hd t n = true
  · have H := Lib.hid h
    go_enter Tryd.func64, Tryd.ntmps64
    go_wp2_with (first | (go_at_call 57; refine (pack_any _ _ (by omega) (by omega) _).mono ?_; rintro e w' ⟨rfl, rfl⟩) | (go_at_call 56; refine (holds_any _ _ (by omega) (by omega) _).mono ?_; rintro e w' ⟨rfl, rfl⟩))
    go_ret2
    exact ⟨by simp [made, H.out], rfl⟩
  · replace h : WM.hd t n = false := by simpa using h
    have H := Lib.hid h
    go_enter Tryd.func64, Tryd.ntmps64
    go_wp2_with (first | (go_at_call 57; refine (pack_any _ _ (by omega) (by omega) _).mono ?_; rintro e w' ⟨rfl, rfl⟩) | (go_at_call 56; refine (holds_any _ _ (by omega) (by omega) _).mono ?_; rintro e w' ⟨rfl, rfl⟩))
    go_ret2
    exact ⟨by simp [made, H.out], rfl⟩

theorem fix_any (n : Int) (w : World) :
    Calls Tryd.prog 26 #[.int .i64 n] w fun e w' => e = .returned (made 11 0 n) ∧ w = w' := by
  by_cases h : WM.hd 0 n = true
  · have H := Lib.hid h
    go_enter Tryd.func26, Tryd.ntmps26
    go_wp2_with (first | (go_at_call 57; refine (pack_any _ _ (by omega) (by omega) _).mono ?_; rintro e w' ⟨rfl, rfl⟩) | (go_at_call 56; refine (holds_any _ _ (by omega) (by omega) _).mono ?_; rintro e w' ⟨rfl, rfl⟩))
    go_ret2
    exact ⟨by simp [made, H.out], rfl⟩
  · replace h : WM.hd 0 n = false := by simpa using h
    have H := Lib.hid h
    go_enter Tryd.func26, Tryd.ntmps26
    go_wp2_with (first | (go_at_call 57; refine (pack_any _ _ (by omega) (by omega) _).mono ?_; rintro e w' ⟨rfl, rfl⟩) | (go_at_call 56; refine (holds_any _ _ (by omega) (by omega) _).mono ?_; rintro e w' ⟨rfl, rfl⟩))
    go_ret2
    exact ⟨by simp [made, H.out], rfl⟩
theorem checked_yes (t n : Int) (t0 : 0 ≤ t) (t1 : t < 8) (h : WM.hd t n = true) (w : World) :
    Calls Tryd.prog 64 #[.int .u64 t, .int .i64 n] w fun e w' => e = .returned (.tuple #[.int .u64 (WM.mk t n), .nilIface]) ∧ w = w' := by
  have H := checked_any t n t0 t1 w
  simp only [made, h, if_true] at H
  exact H
theorem checked_no (t n : Int) (t0 : 0 ≤ t) (t1 : t < 8) (h : WM.hd t n = false) (w : World) :
    Calls Tryd.prog 64 #[.int .u64 t, .int .i64 n] w fun e w' => e = .returned (.tuple #[.int .u64 0, .iface 58 (.int .i64 2)]) ∧ w = w' := by
  have H := checked_any t n t0 t1 w
  simp only [made, h, Bool.false_eq_true, if_false] at H
  exact H

theorem cell_any (n : Int) (w : World) :
    Calls Tryd.prog 38 #[.int .i64 n] w fun e w' => e = .returned (made 2 1 n) ∧ w = w' := by
  by_cases h : WM.hd 1 n = true
  · have H := Lib.hid h
    go_enter Tryd.func38, Tryd.ntmps38
    go_wp2_with (go_at_call 64; refine (checked_yes _ _ (by omega) (by omega) H.out _).mono ?_; rintro e w' ⟨rfl, rfl⟩)
    go_ret2
    exact ⟨by simp [made, H.out], rfl⟩
  · replace h : WM.hd 1 n = false := by simpa using h
    have H := Lib.hid h
    go_enter Tryd.func38, Tryd.ntmps38
    go_wp2_with (go_at_call 64; refine (checked_no _ _ (by omega) (by omega) H.out _).mono ?_; rintro e w' ⟨rfl, rfl⟩)
    go_ret2
    exact ⟨by simp [made, H.out], rfl⟩

theorem kind_any (a : Int) (h0 : 0 ≤ a) (h1 : a < 18446744073709551616) (w : World) :
    Calls Tryd.prog 66 #[.int .u64 a] w fun e w' => e = .returned (.int .i64 (WM.kd a)) ∧ w = w' := by
  have H7 := WM.and7 a h0 h1
  have hb := WM.nm_bd a
  have ht : a % 8 = 0 ∨ a % 8 = 1 ∨ a % 8 = 2 ∨ a % 8 = 3 ∨ a % 8 = 4 ∨ a % 8 = 5 ∨ a % 8 = 6 ∨ a % 8 = 7 := by omega
  clear h0 h1
  rcases ht with ht | ht | ht | ht | ht | ht | ht | ht
  all_goals
    rw [ht] at H7
    have T := Lib.hid ht
    clear ht
    by_cases h : WM.hd (a % 8) (WM.nm a) = true
    · rw [T.out] at h
      go_enter Tryd.func66, Tryd.ntmps66
      go_wp2_with (first | (go_at_call 81; refine (number_any _ _).mono ?_; rintro e w' ⟨rfl, rfl⟩) | (go_at_call 56; refine (holds_any _ _ (by omega) (by omega) _).mono ?_; rintro e w' ⟨rfl, rfl⟩))
      go_ret
      refine ⟨ret_i ?_, rfl⟩
      first | (simp [WM.kd, T.out, WM.kt, h]; done) | (exfalso; simp [WM.hd, WM.least, WM.most] at h; omega)
    · replace h : WM.hd (a % 8) (WM.nm a) = false := by simpa using h
      have H := Lib.hid h
      rw [T.out] at h
      go_enter Tryd.func66, Tryd.ntmps66
      go_wp2_with (first | (go_at_call 81; refine (number_any _ _).mono ?_; rintro e w' ⟨rfl, rfl⟩) | (go_at_call 56; refine (holds_any _ _ (by omega) (by omega) _).mono ?_; rintro e w' ⟨rfl, rfl⟩))
      go_ret
      refine ⟨ret_i ?_, rfl⟩
      simp [WM.kd, H.out]
theorem value_any (a : Int) (h0 : 0 ≤ a) (h1 : a < 18446744073709551616) (w : World) :
    Calls Tryd.prog 80 #[.int .u64 a] w fun e w' => e = .returned (.int .i64 (WM.vl a)) ∧ w = w' := by
  by_cases h : WM.kd a = 0
  · have H := Lib.hid h
    have hb : (WM.kd a == 0) = true := by simpa using h
    clear h
    go_enter Tryd.func80, Tryd.ntmps80
    go_wp2_with (first | (go_at_call 66; refine (kind_any _ h0 h1 _).mono ?_; rintro e w' ⟨rfl, rfl⟩) | (go_at_call 81; refine (number_any _ _).mono ?_; rintro e w' ⟨rfl, rfl⟩))
    go_ret
    exact ⟨ret_i (by simp [WM.vl, H.out]), rfl⟩
  · have H := Lib.hid h
    have hb : (WM.kd a == 0) = false := by simpa using h
    clear h
    go_enter Tryd.func80, Tryd.ntmps80
    go_wp2_with (first | (go_at_call 66; refine (kind_any _ h0 h1 _).mono ?_; rintro e w' ⟨rfl, rfl⟩) | (go_at_call 81; refine (number_any _ _).mono ?_; rintro e w' ⟨rfl, rfl⟩))
    go_ret
    exact ⟨ret_i (by simp [WM.vl, H.out]), rfl⟩

end Go.Proofs.YtclcnepkgjcmcaaDoor
