/- The document's own table: its calls that write. -/
import Derived.Test.YtbkjmmeipbbaaaaDoorEnvRef
namespace Go.Proofs.YtbkjmmeipbbaaaaDoor
open Go.ChangeShapes Go.WideShapes Go.ChangeAt Go.RowKit

/-- what a call that writes leaves -/
def RWrote (r : Nat) (E : Nat → Prop) (np nt : Nat) (A : List ER.Al) (w w' : World) : Prop := ∃ E', Rw w' r E' np nt A ∧ (∀ g, E' g → E g ∨ w.heap.size ≤ g) ∧ Turns E w w'
section
variable {r np nt : Nat} {E : Nat → Prop} {A : List ER.Al}
theorem RWrote.same {w w' : World} (h : Rw w r E np nt A) (k : Went w w') : RWrote r E np nt A w w' := ⟨E, h.below k, fun _ hg => .inl hg, Turns.of_below k E⟩
theorem Rw.pushP {w w4 w6 : World} {c : List Value} {vP vA vT v' : Value} {csP csT : List Value} (hlow : ∀ g, E g → g < w.heap.size) (h1 : Lies w4 r 34 [vP, vA, vT]) (_h2 : w4.ownsRow 0 70 4 vP np csP) (h3 : OwnAl w4 vA A) (h4 : w4.ownsRow 0 70 4 vT nt csT)
    (h5 : ∀ g, vP.ownBlock = some g → E g ∧ vA.ownBlock ≠ some g ∧ vT.ownBlock ≠ some g ∧ g ≠ r) (h6 : ∀ g, vA.ownBlock = some g → E g ∧ vT.ownBlock ≠ some g ∧ g ≠ r) (h7 : ∀ g, vT.ownBlock = some g → E g ∧ g ≠ r) (h8 : E r) (hw : Below w.heap.size w w4) (hb : Went w4 w6)
    (w9 : World) (ho : w9.ownsRow 0 70 4 v' (np + 1) (csP ++ c)) (hg : w6.grownBy w9 vP.ownBlock) (hat : v'.ownBlock = vP.ownBlock ∨ v'.ownBlock = some w6.heap.size) :
    RWrote r E (np + 1) nt A w (w9.setCell ⟨r, 0, none⟩ v') := by
  have hw6 : Below w.heap.size w w6 := hw.trans (Below.mono hb hw.size)
  have hsz : w.heap.size ≤ w6.heap.size := hw6.size
  have h9s : w6.heap.size ≤ w9.heap.size := hg.size
  have T9 : Turns (fun g => vP.ownBlock = some g) w4 w9 := (Turns.of_below hb (fun g => vP.ownBlock = some g)).then (Turns.appendedS hg) (fun _ _ h => h)
  have T10 : Turns (fun g => vP.ownBlock = some g ∨ g = r) w4 (w9.setCell ⟨r, 0, none⟩ v') := (T9.mono (fun _ _ h => .inl h)).setCell (p := ⟨r, 0, none⟩) (fun _ => .inr rfl) v'
  have hro : vP.ownBlock ≠ some r := fun e => ((h5 r e).2.2.2) rfl
  have hL := (h1.turns T9 hro).stored 0 v'
  have hv' : ∀ g, v'.ownBlock = some g → (E g ∧ vP.ownBlock = some g) ∨ (w6.heap.size ≤ g ∧ g < (w9.setCell ⟨r, 0, none⟩ v').heap.size) := fun g hg' => by
    rcases hat with e1 | e1
    · rw [e1] at hg'; exact .inl ⟨(h5 g hg').1, hg'⟩
    · rw [e1] at hg'
      simp only [Option.some.injEq] at hg'
      have := (World.ownsRow.lt ho g (by rw [e1, hg'])).2
      exact .inr ⟨by omega, by simpa using this⟩
  have hlt : ∀ g, E g → g < w6.heap.size := fun g hg' => Nat.lt_of_lt_of_le (hlow g hg') hsz
  have hrow := own_turns ho ((Turns.refl (fun g => g = r) w9).setCell (p := ⟨r, 0, none⟩) (fun _ => rfl) v') (fun g hg' e => by
    subst e
    rcases hv' g hg' with h | h
    · exact hro h.2
    · have := hlt g h8; omega)
  refine ⟨fun g => E g ∨ v'.ownBlock = some g, ⟨v', vA, vT, _, csT, hL, hrow, (own_turns h3 T10 (fun g hg' hh => by rcases hh with hh | hh; exact (fun e => (h5 g e).2.1 hg') hh; exact ((h6 g hg').2.2) hh)), (own_turns h4 T10 (fun g hg' hh => by rcases hh with hh | hh; exact (fun e => (h5 g e).2.2.1 hg') hh; exact ((h7 g hg').2) hh)), fun g hg' => ⟨.inr hg', (by rcases hv' g hg' with h | h; exact ((h5 g h.2).2.1); exact fun e => by have := hlt g ((h6 g e).1); omega), (by rcases hv' g hg' with h | h; exact ((h5 g h.2).2.2.1); exact fun e => by have := hlt g ((h7 g e).1); omega), (by rcases hv' g hg' with h | h; exact ((h5 g h.2).2.2.2); exact fun e => by subst e; have := hlt g h8; omega)⟩, fun g hg' => ⟨.inl (h6 g hg').1, (h6 g hg').2.1, (h6 g hg').2.2⟩, fun g hg' => ⟨.inl (h7 g hg').1, (h7 g hg').2⟩, .inl h8, fun g hg' => ?_⟩, fun g hg' => ?_, (Turns.of_below hw E).then T10 (fun g _ h => by rcases h with h | rfl; exact (h5 g h).1; exact h8)⟩
  · rcases hg' with hg' | hg'
    · have := hlt g hg'; simp; omega
    · rcases hv' g hg' with h | h
      · have := hlt g h.1; simp; omega
      · exact h.2
  · rcases hg' with hg' | hg'
    · exact .inl hg'
    · rcases hv' g hg' with h | h
      · exact .inl h.1
      · exact .inr (by omega)
theorem Rw.pushA {w w4 w6 : World} {a : ER.Al} {vP vA vT v' : Value} {csP csT : List Value} (hlow : ∀ g, E g → g < w.heap.size) (h1 : Lies w4 r 34 [vP, vA, vT]) (h2 : w4.ownsRow 0 70 4 vP np csP) (_h3 : OwnAl w4 vA A) (h4 : w4.ownsRow 0 70 4 vT nt csT)
    (h5 : ∀ g, vP.ownBlock = some g → E g ∧ vA.ownBlock ≠ some g ∧ vT.ownBlock ≠ some g ∧ g ≠ r) (h6 : ∀ g, vA.ownBlock = some g → E g ∧ vT.ownBlock ≠ some g ∧ g ≠ r) (h7 : ∀ g, vT.ownBlock = some g → E g ∧ g ≠ r) (h8 : E r) (hw : Below w.heap.size w w4) (hb : Went w4 w6)
    (w9 : World) (ho : w9.ownsRow 0 65 3 v' (A.length + 1) (A.flatMap acs ++ acs a)) (hg : w6.grownBy w9 vA.ownBlock) (hat : v'.ownBlock = vA.ownBlock ∨ v'.ownBlock = some w6.heap.size) :
    RWrote r E np nt (A ++ [a]) w (w9.setCell ⟨r, 1, none⟩ v') := by
  have hw6 : Below w.heap.size w w6 := hw.trans (Below.mono hb hw.size)
  have hsz : w.heap.size ≤ w6.heap.size := hw6.size
  have h9s : w6.heap.size ≤ w9.heap.size := hg.size
  have T9 : Turns (fun g => vA.ownBlock = some g) w4 w9 := (Turns.of_below hb (fun g => vA.ownBlock = some g)).then (Turns.appendedS hg) (fun _ _ h => h)
  have T10 : Turns (fun g => vA.ownBlock = some g ∨ g = r) w4 (w9.setCell ⟨r, 1, none⟩ v') := (T9.mono (fun _ _ h => .inl h)).setCell (p := ⟨r, 1, none⟩) (fun _ => .inr rfl) v'
  have hro : vA.ownBlock ≠ some r := fun e => ((h6 r e).2.2) rfl
  have hL := (h1.turns T9 hro).stored 1 v'
  have hv' : ∀ g, v'.ownBlock = some g → (E g ∧ vA.ownBlock = some g) ∨ (w6.heap.size ≤ g ∧ g < (w9.setCell ⟨r, 1, none⟩ v').heap.size) := fun g hg' => by
    rcases hat with e1 | e1
    · rw [e1] at hg'; exact .inl ⟨(h6 g hg').1, hg'⟩
    · rw [e1] at hg'
      simp only [Option.some.injEq] at hg'
      have := (World.ownsRow.lt ho g (by rw [e1, hg'])).2
      exact .inr ⟨by omega, by simpa using this⟩
  have hlt : ∀ g, E g → g < w6.heap.size := fun g hg' => Nat.lt_of_lt_of_le (hlow g hg') hsz
  have hrow := own_turns ho ((Turns.refl (fun g => g = r) w9).setCell (p := ⟨r, 1, none⟩) (fun _ => rfl) v') (fun g hg' e => by
    subst e
    rcases hv' g hg' with h | h
    · exact hro h.2
    · have := hlt g h8; omega)
  refine ⟨fun g => E g ∨ v'.ownBlock = some g, ⟨vP, v', vT, csP, csT, hL, (own_turns h2 T10 (fun g hg' hh => by rcases hh with hh | hh; exact ((h5 g hg').2.1) hh; exact ((h5 g hg').2.2.2) hh)), (by unfold OwnAl; rw [List.length_append, List.flatMap_append]; simpa using hrow), (own_turns h4 T10 (fun g hg' hh => by rcases hh with hh | hh; exact (fun e => (h6 g e).2.1 hg') hh; exact ((h7 g hg').2) hh)), fun g hg' => ⟨.inl (h5 g hg').1, (fun e => by rcases hv' g e with h | h; exact ((h5 g hg').2.1) h.2; have := hlt g ((h5 g hg').1); omega), (h5 g hg').2.2.1, (h5 g hg').2.2.2⟩, fun g hg' => ⟨.inr hg', (by rcases hv' g hg' with h | h; exact ((h6 g h.2).2.1); exact fun e => by have := hlt g ((h7 g e).1); omega), (by rcases hv' g hg' with h | h; exact ((h6 g h.2).2.2); exact fun e => by subst e; have := hlt g h8; omega)⟩, fun g hg' => ⟨.inl (h7 g hg').1, (h7 g hg').2⟩, .inl h8, fun g hg' => ?_⟩, fun g hg' => ?_, (Turns.of_below hw E).then T10 (fun g _ h => by rcases h with h | rfl; exact (h6 g h).1; exact h8)⟩
  · rcases hg' with hg' | hg'
    · have := hlt g hg'; simp; omega
    · rcases hv' g hg' with h | h
      · have := hlt g h.1; simp; omega
      · exact h.2
  · rcases hg' with hg' | hg'
    · exact .inl hg'
    · rcases hv' g hg' with h | h
      · exact .inl h.1
      · exact .inr (by omega)
theorem Rw.pushT {w w4 w6 : World} {c : List Value} {vP vA vT v' : Value} {csP csT : List Value} (hlow : ∀ g, E g → g < w.heap.size) (h1 : Lies w4 r 34 [vP, vA, vT]) (h2 : w4.ownsRow 0 70 4 vP np csP) (h3 : OwnAl w4 vA A) (_h4 : w4.ownsRow 0 70 4 vT nt csT)
    (h5 : ∀ g, vP.ownBlock = some g → E g ∧ vA.ownBlock ≠ some g ∧ vT.ownBlock ≠ some g ∧ g ≠ r) (h6 : ∀ g, vA.ownBlock = some g → E g ∧ vT.ownBlock ≠ some g ∧ g ≠ r) (h7 : ∀ g, vT.ownBlock = some g → E g ∧ g ≠ r) (h8 : E r) (hw : Below w.heap.size w w4) (hb : Went w4 w6)
    (w9 : World) (ho : w9.ownsRow 0 70 4 v' (nt + 1) (csT ++ c)) (hg : w6.grownBy w9 vT.ownBlock) (hat : v'.ownBlock = vT.ownBlock ∨ v'.ownBlock = some w6.heap.size) :
    RWrote r E np (nt + 1) A w (w9.setCell ⟨r, 2, none⟩ v') := by
  have hw6 : Below w.heap.size w w6 := hw.trans (Below.mono hb hw.size)
  have hsz : w.heap.size ≤ w6.heap.size := hw6.size
  have h9s : w6.heap.size ≤ w9.heap.size := hg.size
  have T9 : Turns (fun g => vT.ownBlock = some g) w4 w9 := (Turns.of_below hb (fun g => vT.ownBlock = some g)).then (Turns.appendedS hg) (fun _ _ h => h)
  have T10 : Turns (fun g => vT.ownBlock = some g ∨ g = r) w4 (w9.setCell ⟨r, 2, none⟩ v') := (T9.mono (fun _ _ h => .inl h)).setCell (p := ⟨r, 2, none⟩) (fun _ => .inr rfl) v'
  have hro : vT.ownBlock ≠ some r := fun e => ((h7 r e).2) rfl
  have hL := (h1.turns T9 hro).stored 2 v'
  have hv' : ∀ g, v'.ownBlock = some g → (E g ∧ vT.ownBlock = some g) ∨ (w6.heap.size ≤ g ∧ g < (w9.setCell ⟨r, 2, none⟩ v').heap.size) := fun g hg' => by
    rcases hat with e1 | e1
    · rw [e1] at hg'; exact .inl ⟨(h7 g hg').1, hg'⟩
    · rw [e1] at hg'
      simp only [Option.some.injEq] at hg'
      have := (World.ownsRow.lt ho g (by rw [e1, hg'])).2
      exact .inr ⟨by omega, by simpa using this⟩
  have hlt : ∀ g, E g → g < w6.heap.size := fun g hg' => Nat.lt_of_lt_of_le (hlow g hg') hsz
  have hrow := own_turns ho ((Turns.refl (fun g => g = r) w9).setCell (p := ⟨r, 2, none⟩) (fun _ => rfl) v') (fun g hg' e => by
    subst e
    rcases hv' g hg' with h | h
    · exact hro h.2
    · have := hlt g h8; omega)
  refine ⟨fun g => E g ∨ v'.ownBlock = some g, ⟨vP, vA, v', csP, _, hL, (own_turns h2 T10 (fun g hg' hh => by rcases hh with hh | hh; exact ((h5 g hg').2.2.1) hh; exact ((h5 g hg').2.2.2) hh)), (own_turns h3 T10 (fun g hg' hh => by rcases hh with hh | hh; exact ((h6 g hg').2.1) hh; exact ((h6 g hg').2.2) hh)), hrow, fun g hg' => ⟨.inl (h5 g hg').1, (h5 g hg').2.1, (fun e => by rcases hv' g e with h | h; exact ((h5 g hg').2.2.1) h.2; have := hlt g ((h5 g hg').1); omega), (h5 g hg').2.2.2⟩, fun g hg' => ⟨.inl (h6 g hg').1, (fun e => by rcases hv' g e with h | h; exact ((h6 g hg').2.1) h.2; have := hlt g ((h6 g hg').1); omega), (h6 g hg').2.2⟩, fun g hg' => ⟨.inr hg', (by rcases hv' g hg' with h | h; exact ((h7 g h.2).2); exact fun e => by subst e; have := hlt g h8; omega)⟩, .inl h8, fun g hg' => ?_⟩, fun g hg' => ?_, (Turns.of_below hw E).then T10 (fun g _ h => by rcases h with h | rfl; exact (h7 g h).1; exact h8)⟩
  · rcases hg' with hg' | hg'
    · have := hlt g hg'; simp; omega
    · rcases hv' g hg' with h | h
      · have := hlt g h.1; simp; omega
      · exact h.2
  · rcases hg' with hg' | hg'
    · exact .inl hg'
    · rcases hv' g hg' with h | h
      · exact .inl h.1
      · exact .inr (by omega)
end
end Go.Proofs.YtbkjmmeipbbaaaaDoor
