/- Words for memory that the walks share: a block that is known whole, and a step of the world that turns some blocks alone. -/
import Derived.Below
import Derived.Laws.Rows
import Derived.Laws.OwnMore
import Derived.Deep.Draws
namespace Go.Proofs.YthfelkcomhflnaaDoor
open Go.RowKit

/-- Block g is just these cells, none of them frozen. -/
def Lies (w : World) (g : Nat) (t : TypeId) (cs : List Value) : Prop := w.heap[g]? = some (.cells cs.toArray t (0, 0))

/-- Of the blocks that were there only those in X may have turned. -/
structure Turns (X : Nat → Prop) (w w' : World) : Prop where
  os : w'.os = w.os
  tape : w'.tape = w.tape
  output : w'.output = w.output
  size : w.heap.size ≤ w'.heap.size
  block : ∀ k, k < w.heap.size → ¬ X k → w'.heap[k]? = w.heap[k]?

section
variable {w w' a : World} {g : Nat} {t : TypeId} {cs : List Value} {X Y : Nat → Prop}

theorem Lies.lt (h : Lies w g t cs) : g < w.heap.size := by
  unfold Lies at h
  by_cases hg : g < w.heap.size
  · exact hg
  · rw [Array.getElem?_eq_none (by omega)] at h
    exact absurd h (by simp)
theorem Lies.cell (h : Lies w g t cs) (i : Nat) : w.cell? ⟨g, i, none⟩ = cs[i]? := by
  have := cell_of_row w g i _ t (0, 0) h
  simpa using this
theorem Lies.free (h : Lies w g t cs) (i : Nat) : w.frozen? ⟨g, i, none⟩ = false := frozen_of_row w g i _ t h
theorem Lies.made (w : World) (t : TypeId) (cs : Array Value) : Lies (w.alloc (.cells cs t)) w.heap.size t cs.toList := by
  unfold Lies
  rw [heap_alloc_new]
theorem Lies.drew (h : Lies w g t cs) : Lies w.drew g t cs := h
theorem Lies.drewN (h : Lies w g t cs) (n : Nat) : Lies (w.drewN n) g t cs := h
theorem Lies.alloc (h : Lies w g t cs) (o : Obj) : Lies (w.alloc o) g t cs := (heap_alloc_old w o g h.lt).trans h
theorem Lies.stored (h : Lies w g t cs) (i : Nat) (u : Value) : Lies (w.setCell ⟨g, i, none⟩ u) g t (cs.set i u) := by
  unfold Lies at h ⊢
  rw [heap_setCell_same w g i _ t u h]
  simp
theorem Lies.far (h : Lies w g t cs) {p : Addr} (hp : g ≠ p.block) (u : Value) : Lies (w.setCell p u) g t cs := (Below.heap_setCell w p u g hp).trans h
theorem Lies.turns (h : Lies w g t cs) (k : Turns X w w') (hx : ¬ X g) : Lies w' g t cs := (k.block g h.lt hx).trans h
theorem Lies.below {B : Nat} (h : Lies w g t cs) (k : Below B w w') (hg : g < B) : Lies w' g t cs := (k.block g hg).trans h
theorem Lies.apart {g' : Nat} {t' : TypeId} {cs' : List Value} (h : Lies w g t cs) (h' : Lies w g' t' cs') (hne : t ≠ t') : g ≠ g' := by
  intro e
  subst e
  have := h.symm.trans h'
  simp at this
  exact hne this.2

theorem Turns.refl (X : Nat → Prop) (w : World) : Turns X w w := ⟨rfl, rfl, rfl, Nat.le_refl _, fun _ _ _ => rfl⟩
theorem Turns.trans (h : Turns X a w) (k : Turns X w w') : Turns X a w' :=
  ⟨k.os.trans h.os, k.tape.trans h.tape, k.output.trans h.output, Nat.le_trans h.size k.size, fun i hi hx => (k.block i (Nat.lt_of_lt_of_le hi h.size) hx).trans (h.block i hi hx)⟩
/-- two steps, the second of which turns besides what is new only what the first may turn -/
theorem Turns.then (h : Turns X a w) (k : Turns Y w w') (hy : ∀ i, i < a.heap.size → Y i → X i) : Turns X a w' :=
  ⟨k.os.trans h.os, k.tape.trans h.tape, k.output.trans h.output, Nat.le_trans h.size k.size, fun i hi hx => (k.block i (Nat.lt_of_lt_of_le hi h.size) (fun hh => hx (hy i hi hh))).trans (h.block i hi hx)⟩
theorem Turns.mono (h : Turns X w w') (hy : ∀ i, i < w.heap.size → X i → Y i) : Turns Y w w' := ⟨h.os, h.tape, h.output, h.size, fun i hi hx => h.block i hi (fun hh => hx (hy i hi hh))⟩
theorem Turns.drew (h : Turns X a w) : Turns X a w.drew := ⟨h.os, h.tape, h.output, h.size, h.block⟩
theorem Turns.drewN (h : Turns X a w) (n : Nat) : Turns X a (w.drewN n) := ⟨h.os, h.tape, h.output, h.size, h.block⟩
theorem Turns.alloc (h : Turns X a w) (o : Obj) : Turns X a (w.alloc o) :=
  ⟨h.os, h.tape, h.output, Nat.le_trans h.size (by simp), fun i hi hx => (heap_alloc_old w o i (Nat.lt_of_lt_of_le hi h.size)).trans (h.block i hi hx)⟩
theorem Turns.setCell (h : Turns X a w) {p : Addr} (hp : p.block < a.heap.size → X p.block) (u : Value) : Turns X a (w.setCell p u) :=
  ⟨h.os, h.tape, h.output, by simpa using h.size, fun i hi hx => (Below.heap_setCell w p u i (fun e => hx (e ▸ hp (e ▸ hi)))).trans (h.block i hi hx)⟩
theorem Turns.of_below (h : Below w.heap.size w w') (X : Nat → Prop) : Turns X w w' := ⟨h.os, h.tape, h.output, h.size, fun i hi _ => h.block i hi⟩
theorem Turns.below {B : Nat} (h : Turns X w w') (hB : B ≤ w.heap.size) (hx : ∀ i, X i → B ≤ i) : Below B w w' :=
  ⟨h.os, h.tape, h.output, h.size, fun i hi => h.block i (Nat.lt_of_lt_of_le hi hB) (fun hh => by have := hx i hh; omega)⟩
theorem Turns.grown {row : Option Nat} (h : Turns X a w) (hg : w.grownBy w' row) (hr : ∀ k, row = some k → k < a.heap.size → X k) : Turns X a w' :=
  ⟨hg.os.trans h.os, hg.tape.trans h.tape, hg.output.trans h.output, Nat.le_trans h.size hg.size, fun i hi hx => (hg.block i (Nat.lt_of_lt_of_le hi h.size) (fun e => hx (hr i e.symm hi))).trans (h.block i hi hx)⟩
theorem below_drewN {B : Nat} (h : Below B a w) (n : Nat) : Below B a (w.drewN n) := ⟨h.os, h.tape, h.output, h.size, h.block⟩
theorem below_of_drew {B : Nat} (h : Below B w.drew w') : Below B w w' := ⟨h.os, h.tape, h.output, h.size, h.block⟩
theorem below_of_drewN {B n : Nat} (h : Below B (w.drewN n) w') : Below B w w' := ⟨h.os, h.tape, h.output, h.size, h.block⟩
theorem Turns.of_drew (h : Turns X w.drew w') : Turns X w w' := ⟨h.os, h.tape, h.output, h.size, h.block⟩
end
end Go.Proofs.YthfelkcomhflnaaDoor
