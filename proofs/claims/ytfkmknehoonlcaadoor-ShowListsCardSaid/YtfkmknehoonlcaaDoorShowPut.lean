/- What package show's writer puts: a text, a byte, a string within its marks; a character's text. -/
import Derived.Test.YtfkmknehoonlcaaDoorShowMath
import Derived.Test.YtfkmknehoonlcaaDoorFixText
import Derived.Test.YtfkmknehoonlcaaDoorDatIn
import Derived.Lib.AppendStr
import Derived.Deep.RegionHeld3
import Derived.Deep.RegionWith
namespace Go.Proofs.YtfkmknehoonlcaaDoor
open Go.ChangeShapes Go.WideShapes Go.ChangeAt Go.RowKit

theorem went_alloc (w : World) (o : Obj) : Went w (w.alloc o) := (Below.refl _ w).alloc (Nat.le_refl _) _
/-- block k holds bytes -/
def Byt (w : World) (k : Nat) : Prop := ∃ c f, w.heap[k]? = some (.cells c 5 f)
/-- what a writer at p may turn: itself, and blocks of bytes from B on -/
def Ch (B p : Nat) (w w' : World) : Prop := Turns (fun k => k = p ∨ (B ≤ k ∧ Byt w k)) w w'
/-- the writer at p has written l -/
def Wr (w : World) (B p : Nat) (v : Value) (l : List UInt8) (b : Bool) : Prop := B ≤ p ∧ Lies w p 52 [v, .bool b] ∧ OwnB w B v l
section
variable {B p q : Nat} {w w' w2 : World} {v : Value} {l : List UInt8} {b : Bool} {t : TypeId} {cs : List Value}
theorem Byt.not_lies (hL : Lies w q t cs) (ht : t ≠ 5) (h : Byt w q) : False := by
  obtain ⟨c, f, h⟩ := h
  have := hL.symm.trans h
  simp at this
  exact ht this.2.1
theorem Ch.refl (B p : Nat) (w : World) : Ch B p w w := Turns.refl _ w
theorem Ch.trans (h : Ch B p w w') (k : Ch B p w' w2) : Ch B p w w2 := by
  refine Turns.then h k fun i hi hx => ?_
  rcases hx with hx | ⟨hx, c, f, hc⟩
  · exact .inl hx
  · by_cases hn : i = p ∨ (B ≤ i ∧ Byt w i)
    · exact hn
    · exact .inr ⟨hx, c, f, (Turns.block h i hi hn).symm.trans hc⟩
theorem Ch.of_below (h : Below w.heap.size w w') : Ch B p w w' := Turns.of_below h _
theorem Ch.below (h : Ch B p w w') (hp : B ≤ p) (hB : B ≤ w.heap.size) : Below B w w' := Turns.below h hB (fun i hi => by rcases hi with rfl | hi; exact hp; exact hi.1)
theorem Ch.size (h : Ch B p w w') : w.heap.size ≤ w'.heap.size := Turns.size h
theorem Ch.alloc (h : Ch B p w w') (o : Obj) : Ch B p w (w'.alloc o) := Turns.alloc h o
theorem Ch.of_alloc {o : Obj} (h : Ch B p (w.alloc o) w') : Ch B p w w' := Ch.trans ((Ch.refl B p w).alloc o) h
theorem Lies.ch (hL : Lies w q t cs) (ht : t ≠ 5) (hq : q ≠ p) (h : Ch B p w w') : Lies w' q t cs :=
  hL.turns h (fun hx => by rcases hx with hx | ⟨_, hx⟩; exact hq hx; exact hx.not_lies hL ht)
theorem OwnB.byt (h : OwnB w B v l) : ∀ g, v.ownBlock = some g → B ≤ g ∧ Byt w g := by
  intro g hg
  rcases h.2 with ⟨rfl, _⟩ | ⟨g', cap, cur, rfl, hb, hh, _⟩
  · cases hg
  · simp only [Value.ownBlock, Option.some.injEq] at hg
    subst hg
    exact ⟨hb, _, _, hh⟩
theorem Wr.lt (h : Wr w B p v l b) : B ≤ p ∧ p < w.heap.size := ⟨h.1, h.2.1.lt⟩
theorem Wr.read (h : Wr w B p v l b) : ∃ A c, v = .slice A l.length c := h.2.2.read
theorem Wr.alloc (h : Wr w B p v l b) (o : Obj) : Wr (w.alloc o) B p v l b := ⟨h.1, h.2.1.alloc o, own_turns h.2.2 ((Turns.refl (fun _ => False) w).alloc o) (fun _ _ h => h)⟩
theorem Wr.below (h : Wr w B p v l b) (k : Below w.heap.size w w') : Wr w' B p v l b := ⟨h.1, h.2.1.below k h.2.1.lt, own_below h.2.2 k⟩
/-- behind an append onto what is written, stored in the writer -/
theorem Wr.put {v' : Value} {l' : List UInt8} (h : Wr w B p v l b) (hO : OwnB w' B v' l') (hg : w.grownBy w' v.ownBlock) : Wr (w'.setCell ⟨p, 0, none⟩ v') B p v' l' b ∧ Ch B p w (w'.setCell ⟨p, 0, none⟩ v') := by
  obtain ⟨hB, hL, hO0⟩ := h
  have T := Turns.appendedS hg
  have hL1 := hL.turns T (fun hh => ((hO0.byt _ hh).2).not_lies hL (by decide))
  have hne : ∀ g, v'.ownBlock = some g → g ≠ p := fun g hh e => by subst e; exact ((hO.byt _ hh).2).not_lies hL1 (by decide)
  refine ⟨⟨hB, hL1.stored 0 v', own_turns hO ((Turns.refl (fun k => k = p) w').setCell (p := ⟨p, 0, none⟩) (fun _ => rfl) v') (fun g hh => hne g hh)⟩, ?_⟩
  exact Turns.setCell (T.mono (fun i _ hi => .inr (hO0.byt i hi))) (fun _ => .inl rfl) v'
end

set_option maxRecDepth 100000 in
theorem put_any (w : World) (B p : Nat) (v : Value) (l t : List UInt8) (b : Bool) (h : Wr w B p v l b) (hl : l.length + t.length ≤ 1000000000) :
    Calls Tryd.prog 31 #[.pointer (some ⟨p, 0, none⟩), .string ⟨t.toArray⟩] w fun e w' => e = .returned (.tuple #[]) ∧ (∃ v', Wr w' B p v' (l ++ t) b) ∧ Ch B p w w' := by
  obtain ⟨A, c, rfl⟩ := h.read
  obtain ⟨hB, hp⟩ := h.lt
  have hL := h.2.1
  have y0 : w.cell? ⟨p, 0, none⟩ = some (.slice A l.length c) := hL.cell 0
  have f1 := hL.free
  obtain ⟨S, hS⟩ : ∃ S : ByteArray, ⟨t.toArray⟩ = S := ⟨_, rfl⟩
  have hSs : S.size = t.length := by rw [← hS]; rfl
  have hSd : Lib.strCells S = Lib.byteCells t := by rw [← hS]; rfl
  rw [hS]
  obtain ⟨i0, hi, hz0, hz1, hz2⟩ := info_parts Tryd.infoByte
  obtain ⟨n, hn⟩ : ∃ n, l.length = n := ⟨_, rfl⟩
  have hO : w.ownsRow B 5 1 (.slice A n c) n (Lib.byteCells l) := by have := h.2.2; unfold OwnB at this; rwa [hn] at this
  rw [hn] at y0 hl h
  have hn' := Lib.hid hn
  clear hn hL
  go_enter Tryd.func31, Tryd.ntmps31
  go_wp2_with (
    at_builtin
    refine Lib.wpList_append_own_string (P := Tryd.prog) w rfl _ _ 46 9 rfl B 5 i0 Tryd.underlying46 Tryd.underlying9 hi hz0 hz1 hz2 (.slice A n c) n (Lib.byteCells l) rfl hO S rfl (by rw [hSs]; unfold maxLen; omega) (by rw [hSs]; omega) (by omega) ?_
    intro v9 w9 hown9 hg9 _
    have hO9 : OwnB w9 B v9 (l ++ t) := by
      unfold OwnB
      rw [List.length_append, hn'.out, ← hSs, Lib.byteCells, List.map_append, ← Lib.byteCells, ← Lib.byteCells, ← hSd]
      exact hown9
    obtain ⟨m9, hm9⟩ : ∃ m, (l ++ t).length = m := ⟨_, rfl⟩
    obtain ⟨A9, c9, e9⟩ := hO9.read
    rw [hm9] at e9
    subst e9
    have hW := Wr.put h hO9 hg9
    have y9 : w9.cell? ⟨p, 0, none⟩ = some (.slice A n c) := by
      have T := Turns.appendedS hg9
      exact ((h.2.1).turns T (fun hh => ((h.2.2.byt _ hh).2).not_lies h.2.1 (by decide))).cell 0
    have f9 := ((h.2.1).turns (Turns.appendedS hg9) (fun hh => ((h.2.2.byt _ hh).2).not_lies h.2.1 (by decide))).free
    clear hown9 hg9 hO9 hm9)
  go_end0
  exact ⟨rfl, ⟨_, hW.1⟩, hW.2⟩
end Go.Proofs.YtfkmknehoonlcaaDoor
