/- The heap in memory; what the least of its calls give. -/
import Derived.Test.YtclcnepkgjcmcaaDoorQ1
import Derived.Test.YtclcnepkgjcmcaaDoorQ2
import Derived.Test.YtclcnepkgjcmcaaDoorQ3
import Derived.Laws.Rows
import Derived.Laws.BitsAllLaws
import Derived.Laws.BitsLemmas
import Derived.IntWalk
namespace Go.Proofs.YtclcnepkgjcmcaaDoor
open Go.ChangeShapes Go.WideShapes Go.ChangeAt Go.RowKit

/-- the table of the sizes stands -/
def Tab (w : World) : Prop := 0 < w.heap.size ∧ ∀ i, i < 4 → w.cell? ⟨0, i, none⟩ = some (.int .i64 (ln i - 3))
/-- the heap's struct: its cells -/
def Hp.cells (G : Geo) (H : Hp) (p : Nat) : List Value :=
  [.pointer (some ⟨p, 0, none⟩), .int .i64 G.n.a, .int .i64 G.n.b, .int .i64 G.n.c, .int .i64 G.n.d, .int .i64 51, .int .i64 G.b1, .int .i64 G.b2, .int .i64 G.b3, .int .i64 G.k,
    .int .i64 H.fre.a, .int .i64 H.fre.b, .int .i64 H.fre.c, .int .i64 H.fre.d, .int .i64 H.whi.a, .int .i64 H.whi.b, .int .i64 H.whi.c, .int .i64 H.whi.d, .int .i64 H.wai, .int .i64 H.mis, .bool H.mrk, .int .i64 H.cyc]
/-- Block q is a heap of those numbers, whose store is block p, its words block b. -/
structure Tr (w : World) (q p b : Nat) (G : Geo) (H : Hp) : Prop where
  tab : Tab w
  apart : 0 < q ∧ 0 < p ∧ 0 < b
  here : Lies w q 71 (H.cells G p)
  words : Sto w p b H.ws

section
variable {w w' : World} {q p b : Nat} {G : Geo} {H : Hp} {X : Nat → Prop}
theorem Tab.turns (h : Tab w) (k : Turns X w w') (hx : ¬ X 0) : Tab w' :=
  ⟨Nat.lt_of_lt_of_le h.1 k.size, fun i hi => (World.cell?_of_block (k.block _ h.1 hx)).trans (h.2 i hi)⟩
theorem Tr.ne (h : Tr w q p b G H) : q ≠ p ∧ q ≠ b ∧ p ≠ b := by
  obtain ⟨c, cap, rest, hc, h1, h2⟩ := h.words
  exact ⟨h.here.apart h1 (by decide), h.here.apart h2 (by decide), h1.apart h2 (by decide)⟩
theorem Tr.lt (h : Tr w q p b G H) : q < w.heap.size ∧ p < w.heap.size ∧ b < w.heap.size := ⟨h.here.lt, h.words.lt.1, h.words.lt.2⟩
theorem Tr.turns (h : Tr w q p b G H) (k : Turns X w w') (hq : ¬ X q) (hp : ¬ X p) (hb : ¬ X b) (hg : ¬ X 0) : Tr w' q p b G H :=
  ⟨h.tab.turns k hg, h.apart, h.here.turns k hq, h.words.turns k hp hb⟩
/-- the store alone has turned -/
theorem Tr.stored (h : Tr w q p b G H) {ws : List Int} (k : Turns (fun i => i = p ∨ i = b) w w') (hs : Sto w' p b ws) : Tr w' q p b G { H with ws := ws } :=
  have hn := h.ne
  have ha := h.apart
  ⟨h.tab.turns k (by omega), h.apart, h.here.turns k (by omega), hs⟩
theorem Tr.stored' (h : Tr w q p b G H) (k : Turns (· = p) w w') (hs : Sto w' p b H.ws) : Tr w' q p b G H :=
  h.stored (k.mono fun _ _ e => .inl e) hs
theorem Tr.drewN (h : Tr w q p b G H) (n : Nat) : Tr (w.drewN n) q p b G H := ⟨h.tab, h.apart, h.here, h.words⟩
theorem Tr.drew (h : Tr w q p b G H) : Tr w.drew q p b G H := ⟨h.tab, h.apart, h.here, h.words⟩
theorem Tr.ptr (h : Tr w q p b G H) : w.cell? ⟨q, 0, none⟩ = some (.pointer (some ⟨p, 0, none⟩)) := h.here.cell 0
theorem Tr.counts (h : Tr w q p b G H) {i : Nat} (hi : i < 4) : w.cell? ⟨q, 1 + i, none⟩ = some (.int .i64 (G.n.at_ i)) := by
  rw [h.here.cell]; rcases lt4 hi with rfl | rfl | rfl | rfl <;> rfl
theorem Tr.free (h : Tr w q p b G H) {i : Nat} (hi : i < 4) : w.cell? ⟨q, 10 + i, none⟩ = some (.int .i64 (H.fre.at_ i)) := by
  rw [h.here.cell]; rcases lt4 hi with rfl | rfl | rfl | rfl <;> rfl
theorem Tr.white (h : Tr w q p b G H) {i : Nat} (hi : i < 4) : w.cell? ⟨q, 14 + i, none⟩ = some (.int .i64 (H.whi.at_ i)) := by
  rw [h.here.cell]; rcases lt4 hi with rfl | rfl | rfl | rfl <;> rfl
theorem Tr.base (h : Tr w q p b G H) {i : Nat} (hi : i < 4) : w.cell? ⟨q, 5 + i, none⟩ = some (.int .i64 (G.bas.at_ i)) := by
  rw [h.here.cell]; rcases lt4 hi with rfl | rfl | rfl | rfl <;> rfl
theorem Tr.set_free (h : Tr w q p b G H) {i : Nat} (hi : i < 4) (v : Int) : Tr (w.setCell ⟨q, 10 + i, none⟩ (.int .i64 v)) q p b G { H with fre := H.fre.put i v } := by
  have hn := h.ne
  have ha := h.apart
  have k := (Turns.refl (· = q) w).setCell (p := ⟨q, 10 + i, none⟩) (fun _ => rfl) (.int .i64 v)
  refine ⟨h.tab.turns k (by omega), h.apart, ?_, h.words.turns k (by omega) (by omega)⟩
  have := h.here.stored (10 + i) (.int .i64 v)
  rcases lt4 hi with rfl | rfl | rfl | rfl <;> exact this
theorem Tr.set_white (h : Tr w q p b G H) {i : Nat} (hi : i < 4) (v : Int) : Tr (w.setCell ⟨q, 14 + i, none⟩ (.int .i64 v)) q p b G { H with whi := H.whi.put i v } := by
  have hn := h.ne
  have ha := h.apart
  have k := (Turns.refl (· = q) w).setCell (p := ⟨q, 14 + i, none⟩) (fun _ => rfl) (.int .i64 v)
  refine ⟨h.tab.turns k (by omega), h.apart, ?_, h.words.turns k (by omega) (by omega)⟩
  have := h.here.stored (14 + i) (.int .i64 v)
  rcases lt4 hi with rfl | rfl | rfl | rfl <;> exact this
/-- a field of the struct behind the arrays is set -/
theorem Tr.set_at (h : Tr w q p b G H) {H' : Hp} (j : Nat) (v : Value) (hc : H'.cells G p = (H.cells G p).set j v) (hw : H'.ws = H.ws) : Tr (w.setCell ⟨q, j, none⟩ v) q p b G H' := by
  have hn := h.ne
  have ha := h.apart
  have k := (Turns.refl (· = q) w).setCell (p := ⟨q, j, none⟩) (fun _ => rfl) v
  refine ⟨h.tab.turns k (by omega), h.apart, ?_, by rw [hw]; exact h.words.turns k (by omega) (by omega)⟩
  rw [hc]
  exact h.here.stored j v
end
/-- the blocks of a heap -/
def Own3 (q p b : Nat) : Nat → Prop := fun k => k = q ∨ k = p ∨ k = b

/-! marks -/
theorem bits_or_comm (k : IntKind) (x y : Int) : bits .or k x y = bits .or k y x := by simp [bits, BitVec.or_comm]
theorem and_low (j : Nat) (hj : j ≤ 64) (a : Int) (h0 : 0 ≤ a) (h1 : a < 18446744073709551616) : bits .and .u64 a (2 ^ j - 1) = a % 2 ^ j :=
  bits_mask .u64 64 (by decide) (fun n g0 g1 => by rw [IntKind.wrap_u64]; omega) j hj a h0 h1
theorem or_up (i : Nat) (y x : Int) (y0 : 0 ≤ y) (y1 : y < 2 ^ i) (x0 : 0 ≤ x) (x1 : x < 18446744073709551616) (hx : x % 2 ^ i = 0) (y2 : y < 18446744073709551616) : bits .or .u64 y x = y + x := by
  rw [bits_or_comm, bits_join .u64 64 (by decide) (fun n g0 g1 => by rw [IntKind.wrap_u64]; omega) i x y x0 hx x1 y0 y1 y2]
  omega
theorem form_any (m : Int) (h0 : 0 ≤ m) (h1 : m < 18446744073709551616) (w : World) :
    Calls Tryd.prog 46 #[.int .u64 m] w fun e w' => e = .returned (.int .i64 (mform m)) ∧ w = w' := by
  have H : wrap64 (bits .and .u64 m 3) = mform m := by
    have := and_low 2 (by omega) m h0 h1
    rw [show bits .and .u64 m 3 = m % 4 from this]
    unfold mform wrap64; omega
  have HH := Lib.hid H
  clear H h0 h1
  go_enter Tryd.func46, Tryd.ntmps46
  go_wp2
  go_ret
  exact ⟨ret_i HH.out, rfl⟩
theorem tag_any (m : Int) (h0 : 0 ≤ m) (h1 : m < 18446744073709551616) (w : World) :
    Calls Tryd.prog 47 #[.int .u64 m] w fun e w' => e = .returned (.int .i64 (mtag m)) ∧ w = w' := by
  have H : wrap64 (bits .and .u64 (m / 4) 15) = mtag m := by
    have := and_low 4 (by omega) (m / 4) (by omega) (by omega)
    rw [show bits .and .u64 (m / 4) 15 = m / 4 % 16 from this]
    unfold mtag wrap64; omega
  have HH := Lib.hid H
  clear H
  go_enter Tryd.func47, Tryd.ntmps47
  go_wp2
  go_ret
  exact ⟨ret_i HH.out, rfl⟩
theorem size_any (m : Int) (h0 : 0 ≤ m) (h1 : m < 18446744073709551616) (w : World) :
    Calls Tryd.prog 48 #[.int .u64 m] w fun e w' => e = .returned (.int .i64 (msize m)) ∧ w = w' := by
  have H : wrap64 (bits .and .u64 (m / 64) 127) = msize m := by
    have := and_low 7 (by omega) (m / 64) (by omega) (by omega)
    rw [show bits .and .u64 (m / 64) 127 = m / 64 % 128 from this]
    unfold msize wrap64; omega
  have HH := Lib.hid H
  clear H
  go_enter Tryd.func48, Tryd.ntmps48
  go_wp2
  go_ret
  exact ⟨ret_i HH.out, rfl⟩
theorem task_any (m : Int) (h0 : 0 ≤ m) (h1 : m < 18446744073709551616) (w : World) :
    Calls Tryd.prog 72 #[.int .u64 m] w fun e w' => e = .returned (.int .i64 (mtask m)) ∧ w = w' := by
  have H : wrap64 (bits .and .u64 (m / 8192) 3) = mtask m := by
    have := and_low 2 (by omega) (m / 8192) (by omega) (by omega)
    rw [show bits .and .u64 (m / 8192) 3 = m / 8192 % 4 from this]
    unfold mtask wrap64; omega
  have HH := Lib.hid H
  clear H
  go_enter Tryd.func72, Tryd.ntmps72
  go_wp2
  go_ret
  exact ⟨ret_i HH.out, rfl⟩
theorem last_any (m : Int) (h0 : 0 ≤ m) (h1 : m < 18446744073709551616) (w : World) :
    Calls Tryd.prog 82 #[.int .u64 m] w fun e w' => e = .returned (.int .i64 (mlast m)) ∧ w = w' := by
  have H : m / 32768 = mlast m := rfl
  have HH := Lib.hid H
  clear H
  go_enter Tryd.func82, Tryd.ntmps82
  go_wp2
  go_ret
  exact ⟨ret_i HH.out, rfl⟩
theorem with_any (m t l : Int) (h0 : 0 ≤ m) (h1 : m < 18446744073709551616) (t0 : 0 ≤ t) (t1 : t < 4) (l0 : 0 ≤ l) (l1 : l ≤ 4000000000) (w : World) :
    Calls Tryd.prog 62 #[.int .u64 m, .int .i64 t, .int .i64 l] w fun e w' => e = .returned (.int .u64 (mwith m t l)) ∧ w = w' := by
  have H : bits .or .u64 (bits .or .u64 (bits .and .u64 m 8191) (t * 8192)) (l * 32768) = mwith m t l := by
    have := and_low 13 (by omega) m h0 h1
    rw [show bits .and .u64 m 8191 = m % 8192 from this, or_up 13 (m % 8192) (t * 8192) (by omega) (by omega) (by omega) (by omega) (by omega) (by omega), or_up 15 (m % 8192 + t * 8192) (l * 32768) (by omega) (by omega) (by omega) (by omega) (by omega) (by omega)]
    rfl
  have HH := Lib.hid H
  clear H h0 h1
  go_enter Tryd.func62, Tryd.ntmps62
  go_wp2
  go_ret
  exact ⟨ret_i HH.out, rfl⟩
theorem shape_any (f t n : Int) (f0 : 0 ≤ f) (f1 : f < 4) (t0 : 0 ≤ t) (t1 : t < 16) (n0 : 0 ≤ n) (n1 : n < 128) (w : World) :
    Calls Tryd.prog 36 #[.int .i64 f, .int .i64 t, .int .i64 n] w fun e w' => e = .returned (.int .u64 (mshape f t n)) ∧ w = w' := by
  have H : bits .or .u64 (bits .or .u64 f (t * 4)) (n * 64) = mshape f t n := by
    rw [or_up 2 f (t * 4) (by omega) (by omega) (by omega) (by omega) (by omega) (by omega), or_up 6 (f + t * 4) (n * 64) (by omega) (by omega) (by omega) (by omega) (by omega) (by omega)]
    rfl
  have HH := Lib.hid H
  clear H
  go_enter Tryd.func36, Tryd.ntmps36
  go_wp2
  go_ret
  exact ⟨ret_i HH.out, rfl⟩
theorem head_any (r : Nat) (hr : r < 1000) (w : World) :
    Calls Tryd.prog 33 #[.int .i64 r] w fun e w' => e = .returned (.int .i64 (hd r)) ∧ w = w' := by
  go_enter Tryd.func33, Tryd.ntmps33
  go_wp2
  go_ret
  exact ⟨rfl, rfl⟩
theorem length_any (c : Nat) (hc : c < 4) (w : World) (ht : Tab w) :
    Calls Tryd.prog 28 #[.int .i64 c] w fun e w' => e = .returned (.int .i64 (ln c)) ∧ w = w' := by
  have h := ht.2 c hc
  have e : 3 + (ln c - 3) = ln c := by omega
  have l0 := ln_lo c
  have l1 := ln_hi c
  have HH := Lib.hid e
  clear e ht
  go_enter Tryd.func28, Tryd.ntmps28
  go_wp2
  go_ret
  exact ⟨ret_i HH.out, rfl⟩
end Go.Proofs.YtclcnepkgjcmcaaDoor
