/- Data in memory, one of a row at a time; what holds of all data that are made of such. -/
import Derived.Test.YtfkmknehoonlcaaDoorOwnD
namespace Go.Proofs.YtfkmknehoonlcaaDoor
open Go.ChangeShapes Go.WideShapes Go.ChangeAt Go.RowKit

/-- the datum at a place of a row -/
def RM.Dl.at_ : RM.Dl → Nat → Option RM.Dm
  | .nil, _ => none
  | .cons k n s is _, 0 => some ⟨k, n, s, is⟩
  | .cons _ _ _ _ r, i + 1 => r.at_ i
theorem RM.Dl.at_some : ∀ (d : RM.Dl) (i : Nat), i < d.len → ∃ x, d.at_ i = some x
  | .nil, i, h => by simp [RM.Dl.len] at h
  | .cons k n s is r, 0, h => ⟨⟨k, n, s, is⟩, rfl⟩
  | .cons k n s is r, i + 1, h => RM.Dl.at_some r i (by simp only [RM.Dl.len] at h; omega)
theorem DatAt.at_ {w : World} {S : Nat → Prop} : ∀ {d : RM.Dl} {cs : List Value} {i : Nat} {x : RM.Dm}, DatAt w S d cs → d.at_ i = some x →
    ∃ v, cs[i * 4]? = some (.int .i64 x.k) ∧ cs[i * 4 + 1]? = some (.int .i64 x.n) ∧ cs[i * 4 + 2]? = some (.string ⟨x.s.toArray⟩) ∧ cs[i * 4 + 3]? = some v ∧ Dat w S v x.is
  | .nil, _, _, _, _, hx => by simp [RM.Dl.at_] at hx
  | .cons k n s is r, cs, 0, x, ⟨v, c1, c2, h1, h2, h3, h4, h5⟩, hx => by
    simp only [RM.Dl.at_, Option.some.injEq] at hx
    subst hx
    subst h1
    exact ⟨v, rfl, rfl, rfl, rfl, c1, h2, h3, h4⟩
  | .cons k n s is r, cs, i + 1, x, ⟨v, c1, c2, h1, h2, h3, h4, h5⟩, hx => by
    obtain ⟨v', q0, q1, q2, q3, hd⟩ := DatAt.at_ h5 (show r.at_ i = some x from hx)
    subst h1
    have e : ∀ j, ([Value.int .i64 k, .int .i64 n, .string ⟨s.toArray⟩, v] ++ c2)[(i + 1) * 4 + j]? = c2[i * 4 + j]? := fun j => by
      rw [List.getElem?_append_right (by simp; omega)]
      congr 1
      simp; omega
    exact ⟨v', by rw [← q0]; exact e 0, by rw [← q1]; exact e 1, by rw [← q2]; exact e 2, by rw [← q3]; exact e 3, hd⟩
theorem Dat.at_ {w : World} {S : Nat → Prop} {A : Option Addr} {n c : Nat} {d : RM.Dl} (h : Dat w S (.slice A n c) d) {i : Nat} {x : RM.Dm} (hx : d.at_ i = some x) :
    ∃ g v, A = some ⟨g, 0, none⟩ ∧ g < w.heap.size ∧ w.cell? ⟨g, i * 4, none⟩ = some (.int .i64 x.k) ∧ w.cell? ⟨g, i * 4 + 1, none⟩ = some (.int .i64 x.n) ∧ w.cell? ⟨g, i * 4 + 2, none⟩ = some (.string ⟨x.s.toArray⟩) ∧ w.cell? ⟨g, i * 4 + 3, none⟩ = some v ∧ Dat w S v x.is := by
  obtain ⟨cs, h1, h2, h3⟩ := h
  obtain ⟨v, q0, q1, q2, q3, hd⟩ := h3.at_ hx
  have hl : cs.length = d.len * 4 := h1.1
  have hi : i * 4 + 3 < d.len * 4 := by rw [← hl]; exact (List.getElem?_eq_some_iff.1 q3).1
  obtain ⟨A', c', e, hr⟩ := own_read h1
  injection e with e1 e2 e3
  subst e1
  obtain ⟨g, hg, _, hlt, _⟩ := hr (i * 4) (by omega)
  subst hg
  have at' : ∀ j, j < d.len * 4 → w.cell? ⟨g, j, none⟩ = cs[j]? := fun j hj => by
    obtain ⟨g', hg', _, _, h'⟩ := hr j hj
    cases hg'
    exact h'
  exact ⟨g, v, rfl, hlt, by rw [at' _ (by omega), q0], by rw [at' _ (by omega), q1], by rw [at' _ (by omega), q2], by rw [at' _ (by omega), q3], hd⟩
theorem Dat.len {w : World} {S : Nat → Prop} {v : Value} {d : RM.Dl} (h : Dat w S v d) : d.len ≤ 9223372036854775807 := by
  obtain ⟨cs, h1, _⟩ := h
  rcases h1.2 with ⟨_, hn⟩ | ⟨g, cap, cur, _, _, _, hc, hm, _⟩
  · omega
  · unfold maxLen at hm; omega
theorem Dat.drew {w : World} {S : Nat → Prop} {v : Value} {d : RM.Dl} (h : Dat w S v d) : Dat w.drew S v d := h.turns (Turns.refl (fun _ => False) w).drew (fun _ _ _ h => h)
/-- what holds of all data of a row that is made of such -/
theorem RM.Dl.all_of (P : RM.Dm → Prop) (hP : ∀ k n s is, (∀ i x, RM.Dl.at_ is i = some x → P x) → P ⟨k, n, s, is⟩) : ∀ (d : RM.Dl) (i : Nat) (x : RM.Dm), d.at_ i = some x → P x
  | .nil, i, x, h => by simp [RM.Dl.at_] at h
  | .cons k n s is r, 0, x, h => by
    simp only [RM.Dl.at_, Option.some.injEq] at h
    subst h
    exact hP k n s is (RM.Dl.all_of P hP is)
  | .cons k n s is r, i + 1, x, h => RM.Dl.all_of P hP r i x h
def dtv (x : RM.Dm) (v : Value) : Value := .agg #[.int .i64 x.k, .int .i64 x.n, .string ⟨x.s.toArray⟩, v]

/-- four cells of a block are stored anew -/
def four (w : World) (g : Nat) (x0 x1 x2 x3 : Value) : World := (((w.setCell ⟨g, 0, none⟩ x0).setCell ⟨g, 1, none⟩ x1).setCell ⟨g, 2, none⟩ x2).setCell ⟨g, 3, none⟩ x3
section
variable {w a : World} {g h B : Nat} {t : TypeId} {cs : List Value} {X : Nat → Prop}
theorem four_far (hL : Lies w h t cs) (hne : h ≠ g) (x0 x1 x2 x3 : Value) : Lies (four w g x0 x1 x2 x3) h t cs :=
  (((hL.far (p := ⟨g, 0, none⟩) hne _).far (p := ⟨g, 1, none⟩) hne _).far (p := ⟨g, 2, none⟩) hne _).far (p := ⟨g, 3, none⟩) hne _
theorem four_lies {y0 y1 y2 y3 : Value} (hL : Lies w g t [y0, y1, y2, y3]) (x0 x1 x2 x3 : Value) : Lies (four w g x0 x1 x2 x3) g t [x0, x1, x2, x3] :=
  (((hL.stored 0 x0).stored 1 x1).stored 2 x2).stored 3 x3
theorem four_below (h : Below B a w) (hg : B ≤ g) (x0 x1 x2 x3 : Value) : Below B a (four w g x0 x1 x2 x3) :=
  (((h.setCell (p := ⟨g, 0, none⟩) hg _).setCell (p := ⟨g, 1, none⟩) hg _).setCell (p := ⟨g, 2, none⟩) hg _).setCell (p := ⟨g, 3, none⟩) hg _
theorem four_turns (h : Turns X a w) (hg : a.heap.size ≤ g) (x0 x1 x2 x3 : Value) : Turns X a (four w g x0 x1 x2 x3) :=
  have no : ∀ o, (⟨g, o, none⟩ : Addr).block < a.heap.size → X g := fun o hh => absurd hh (by simp; omega)
  (((h.setCell (p := ⟨g, 0, none⟩) (no 0) _).setCell (p := ⟨g, 1, none⟩) (no 1) _).setCell (p := ⟨g, 2, none⟩) (no 2) _).setCell (p := ⟨g, 3, none⟩) (no 3) _
theorem four_one (w : World) (g : Nat) (x0 x1 x2 x3 : Value) : Turns (fun k => k = g) w (four w g x0 x1 x2 x3) :=
  ((((Turns.refl (fun k => k = g) w).setCell (p := ⟨g, 0, none⟩) (fun _ => rfl) _).setCell (p := ⟨g, 1, none⟩) (fun _ => rfl) _).setCell (p := ⟨g, 2, none⟩) (fun _ => rfl) _).setCell (p := ⟨g, 3, none⟩) (fun _ => rfl) _
end
theorem own_lit4b (w : World) (o : Obj) (t : TypeId) (cs : Array Value) (hs : cs.size = 4 := by rfl) : ((w.alloc o).alloc (.cells cs t)).ownsRow 0 t 4 (.slice (some ⟨w.heap.size + 1, 0, none⟩) 1 1) 1 cs.toList := by
  have := own_one (e := t) (sz := 4) (B := 0) (w.alloc o) cs hs (Nat.zero_le _)
  rwa [show (w.alloc o).heap.size = w.heap.size + 1 by simp] at this
end Go.Proofs.YtfkmknehoonlcaaDoor
