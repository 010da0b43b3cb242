/- Data in memory: rows of data within rows, each in a block of its own; how they stay, and append. -/
import Derived.Test.YthfelkcomhflnaaDoorQ3
import Derived.Test.YthfelkcomhflnaaDoorQ4
import Derived.Test.YthfelkcomhflnaaDoorQ6
namespace Go.Proofs.YthfelkcomhflnaaDoor
open Go.RowKit

theorem Tryd.infoDatum : (Tryd.prog.info? 42).map (fun i => (i.zero, i.size, i.bytes)) = some (some (.agg #[.int .i64 0, .int .i64 0, .string ⟨#[]⟩, .slice none 0 0]), 4, 56) := by kernel_rfl
/-- a row's cells: each datum's kind, number, text and items, which lie in rows of their own; S says which blocks these rows may lie in -/
def DatAt (w : World) (S : Nat → Prop) : RM.Dl → List Value → Prop
  | .nil, cs => cs = []
  | .cons k n s is r, cs => ∃ v c1 c2, cs = [.int .i64 k, .int .i64 n, .string ⟨s.toArray⟩, v] ++ c2 ∧ w.ownsRow 0 42 4 v is.len c1 ∧ (∀ g, v.ownBlock = some g → S g) ∧ DatAt w S is c1 ∧ DatAt w S r c2
/-- v is the row of these data -/
def Dat (w : World) (S : Nat → Prop) (v : Value) (d : RM.Dl) : Prop := ∃ cs, w.ownsRow 0 42 4 v d.len cs ∧ (∀ g, v.ownBlock = some g → S g) ∧ DatAt w S d cs
/-- v is the row of these data, in blocks of S, and none of the rows within it lies in v's own block -/
def Its (w : World) (S : Nat → Prop) (v : Value) (d : RM.Dl) : Prop := ∃ cs, w.ownsRow 0 42 4 v d.len cs ∧ (∀ g, v.ownBlock = some g → S g) ∧ DatAt w (fun g => S g ∧ v.ownBlock ≠ some g) d cs
section
variable {w w' : World} {S S' X : Nat → Prop} {B : Nat} {v v' : Value}
theorem DatAt.mono (hS : ∀ g, g < w.heap.size → S g → S' g) : ∀ {d : RM.Dl} {cs : List Value}, DatAt w S d cs → DatAt w S' d cs
  | .nil, _, h => h
  | .cons _ _ _ _ _, _, ⟨v, c1, c2, h1, h2, h3, h4, h5⟩ => ⟨v, c1, c2, h1, h2, fun g hg => hS g (World.ownsRow.lt h2 g hg).2 (h3 g hg), DatAt.mono hS h4, DatAt.mono hS h5⟩
theorem DatAt.turns (k : Turns X w w') (hX : ∀ g, g < w.heap.size → S g → ¬ X g) : ∀ {d : RM.Dl} {cs : List Value}, DatAt w S d cs → DatAt w' S d cs
  | .nil, _, h => h
  | .cons _ _ _ _ _, _, ⟨v, c1, c2, h1, h2, h3, h4, h5⟩ => ⟨v, c1, c2, h1, own_turns h2 k (fun g hg => hX g (World.ownsRow.lt h2 g hg).2 (h3 g hg)), h3, DatAt.turns k hX h4, DatAt.turns k hX h5⟩
theorem DatAt.one : ∀ {d : RM.Dl} {cs : List Value}, DatAt w S d cs → ∀ u ∈ cs, u.oneCell' = true
  | .nil, cs, h => by rw [show cs = [] from h]; simp
  | .cons _ _ _ _ _, cs, ⟨v, c1, c2, h1, h2, h3, h4, h5⟩ => by
    intro u hu
    rw [h1] at hu
    have hv : v.oneCell' = true := by
      rcases h2.2 with ⟨rfl, _⟩ | ⟨g, cap, cur, rfl, _⟩ <;> rfl
    rcases List.mem_append.1 hu with hu | hu
    · simp only [List.mem_cons, List.not_mem_nil, or_false] at hu
      rcases hu with rfl | rfl | rfl | rfl <;> first | rfl | exact hv
    · exact DatAt.one h5 u hu
theorem DatAt.app : ∀ {d e : RM.Dl} {cs es : List Value}, DatAt w S d cs → DatAt w S e es → DatAt w S (d.app e) (cs ++ es)
  | .nil, e, cs, es, h, k => by rw [show cs = [] from h]; exact k
  | .cons _ _ _ _ _, e, cs, es, ⟨v, c1, c2, h1, h2, h3, h4, h5⟩, k => ⟨v, c1, c2 ++ es, by rw [h1, List.append_assoc], h2, h3, h4, DatAt.app h5 k⟩
theorem Dat.mono {d : RM.Dl} (h : Dat w S v d) (hS : ∀ g, g < w.heap.size → S g → S' g) : Dat w S' v d := by
  obtain ⟨cs, h1, h2, h3⟩ := h
  exact ⟨cs, h1, fun g hg => hS g (World.ownsRow.lt h1 g hg).2 (h2 g hg), h3.mono hS⟩
theorem Dat.turns {d : RM.Dl} (h : Dat w S v d) (k : Turns X w w') (hX : ∀ g, g < w.heap.size → S g → ¬ X g) : Dat w' S v d := by
  obtain ⟨cs, h1, h2, h3⟩ := h
  exact ⟨cs, own_turns h1 k (fun g hg => hX g (World.ownsRow.lt h1 g hg).2 (h2 g hg)), h2, h3.turns k hX⟩
theorem Dat.below {d : RM.Dl} (h : Dat w S v d) (k : Below w.heap.size w w') : Dat w' S v d := h.turns (Turns.of_below k (fun _ => False)) (fun _ _ _ h => h)
theorem Dat.nil (w : World) (S : Nat → Prop) : Dat w S (.slice none 0 0) .nil := ⟨[], own_none w 0 _ 4, (fun g hg => by cases hg), rfl⟩
theorem Its.nil (w : World) (S : Nat → Prop) : Its w S (.slice none 0 0) .nil := ⟨[], own_none w 0 _ 4, (fun g hg => by cases hg), rfl⟩
theorem Its.turns {d : RM.Dl} (h : Its w S v d) (k : Turns X w w') (hX : ∀ g, g < w.heap.size → S g → ¬ X g) : Its w' S v d := by
  obtain ⟨cs, h1, h2, h3⟩ := h
  exact ⟨cs, own_turns h1 k (fun g hg => hX g (World.ownsRow.lt h1 g hg).2 (h2 g hg)), h2, h3.turns k (fun g hg hs => hX g hg hs.1)⟩
theorem Its.below {d : RM.Dl} (h : Its w S v d) (k : Below w.heap.size w w') : Its w' S v d := h.turns (Turns.of_below k (fun _ => False)) (fun _ _ _ h => h)
theorem Its.mono {d : RM.Dl} (h : Its w S v d) (hS : ∀ g, g < w.heap.size → S g → S' g) : Its w S' v d := by
  obtain ⟨cs, h1, h2, h3⟩ := h
  exact ⟨cs, h1, fun g hg => hS g (World.ownsRow.lt h1 g hg).2 (h2 g hg), h3.mono (fun g hg hs => ⟨hS g hg hs.1, hs.2⟩)⟩
theorem Its.dat {d : RM.Dl} (h : Its w S v d) : Dat w S v d := by
  obtain ⟨cs, h1, h2, h3⟩ := h
  exact ⟨cs, h1, h2, h3.mono (fun g _ hs => hs.1)⟩
theorem Its.lt {d : RM.Dl} (h : Its w S v d) : ∀ g, v.ownBlock = some g → S g ∧ g < w.heap.size := by
  obtain ⟨cs, h1, h2, _⟩ := h
  exact fun g hg => ⟨h2 g hg, (World.ownsRow.lt h1 g hg).2⟩
theorem Its.read {d : RM.Dl} (h : Its w S v d) : ∃ A c, v = .slice A d.len c := by
  obtain ⟨cs, h1, _⟩ := h
  obtain ⟨A, c, e, _⟩ := own_read h1
  exact ⟨A, c, e⟩
theorem Dat.read {d : RM.Dl} (h : Dat w S v d) : ∃ A c, v = .slice A d.len c := by
  obtain ⟨cs, h1, _⟩ := h
  obtain ⟨A, c, e, _⟩ := own_read h1
  exact ⟨A, c, e⟩
/-- behind an append, in a world w2 that has kept what w had: the new row -/
theorem Its.grew {d e : RM.Dl} {cs es : List Value} {x : Value} {w2 : World} (h0 : ∀ g, v.ownBlock = some g → S g ∧ g < w.heap.size) (h' : DatAt w (fun g => S g ∧ v.ownBlock ≠ some g) d cs)
    (k' : DatAt w (fun g => S g ∧ v.ownBlock ≠ some g) e es) (k2 : Turns (fun _ => False) w w2) (hr : w'.ownsRow 0 42 4 x (d.len + e.len) (cs ++ es)) (hg : w2.grownBy w' v.ownBlock) (hat : x.ownBlock = v.ownBlock ∨ x.ownBlock = some w2.heap.size)
    (hS1 : ∀ g, g < w.heap.size → S g → S' g) (hS2 : S' w2.heap.size) : Its w' S' x (d.app e) := by
  have T := Turns.appendedS hg
  have hs := k2.size
  refine ⟨cs ++ es, by rw [RM.Dl.len_app]; exact hr, ?_, DatAt.mono ?_ (DatAt.turns (S := fun g => (S g ∧ v.ownBlock ≠ some g) ∧ g < w.heap.size) T (fun g _ hs => hs.1.2) (DatAt.turns k2 (fun _ _ _ h => h) (DatAt.mono (fun g hg hs => ⟨hs, hg⟩) (h'.app k'))))⟩
  · intro g hg
    rcases hat with e1 | e1
    · rw [e1] at hg; exact hS1 g (h0 g hg).2 (h0 g hg).1
    · rw [e1] at hg; injection hg with hg; subst hg; exact hS2
  · intro g _ hs
    refine ⟨hS1 g hs.2 hs.1.1, ?_⟩
    rcases hat with e1 | e1
    · rw [e1]; exact hs.1.2
    · rw [e1]
      intro hh
      injection hh with hh
      have := hs.2
      omega
/-- one datum's cells -/
theorem DatAt.cell1 {d : RM.Dm} (h : Dat w S v d.is) : DatAt w S (.one d) [.int .i64 d.k, .int .i64 d.n, .string ⟨d.s.toArray⟩, v] := by
  obtain ⟨cs, h1, h2, h3⟩ := h
  exact ⟨v, cs, [], rfl, h1, h2, h3, rfl⟩
end
end Go.Proofs.YthfelkcomhflnaaDoor

/- Data in memory, one of a row at a time; what holds of all data that are made of such. -/
namespace Go.Proofs.YthfelkcomhflnaaDoor
open Go.ChangeShapes Go.WideShapes Go.ChangeAt Go.RowKit

/-- the datum at a place of a row -/
def RM.Dl.at_ : RM.Dl → Nat → Option RM.Dm
  | .nil, _ => none
  | .cons k n s is _, 0 => some ⟨k, n, s, is⟩
  | .cons _ _ _ _ r, i + 1 => r.at_ i
theorem RM.Dl.at_some : ∀ (d : RM.Dl) (i : Nat), i < d.len → ∃ x, d.at_ i = some x
  | .nil, i, h => by simp [RM.Dl.len] at h
  | .cons k n s is r, 0, h => ⟨⟨k, n, s, is⟩, rfl⟩
  | .cons k n s is r, i + 1, h => RM.Dl.at_some r i (by simp only [RM.Dl.len] at h; omega)
theorem DatAt.at_ {w : World} {S : Nat → Prop} : ∀ {d : RM.Dl} {cs : List Value} {i : Nat} {x : RM.Dm}, DatAt w S d cs → d.at_ i = some x →
    ∃ v, cs[i * 4]? = some (.int .i64 x.k) ∧ cs[i * 4 + 1]? = some (.int .i64 x.n) ∧ cs[i * 4 + 2]? = some (.string ⟨x.s.toArray⟩) ∧ cs[i * 4 + 3]? = some v ∧ Dat w S v x.is
  | .nil, _, _, _, _, hx => by simp [RM.Dl.at_] at hx
  | .cons k n s is r, cs, 0, x, ⟨v, c1, c2, h1, h2, h3, h4, h5⟩, hx => by
    simp only [RM.Dl.at_, Option.some.injEq] at hx
    subst hx
    subst h1
    exact ⟨v, rfl, rfl, rfl, rfl, c1, h2, h3, h4⟩
  | .cons k n s is r, cs, i + 1, x, ⟨v, c1, c2, h1, h2, h3, h4, h5⟩, hx => by
    obtain ⟨v', q0, q1, q2, q3, hd⟩ := DatAt.at_ h5 (show r.at_ i = some x from hx)
    subst h1
    have e : ∀ j, ([Value.int .i64 k, .int .i64 n, .string ⟨s.toArray⟩, v] ++ c2)[(i + 1) * 4 + j]? = c2[i * 4 + j]? := fun j => by
      rw [List.getElem?_append_right (by simp; omega)]
      congr 1
      simp; omega
    exact ⟨v', by rw [← q0]; exact e 0, by rw [← q1]; exact e 1, by rw [← q2]; exact e 2, by rw [← q3]; exact e 3, hd⟩
theorem Dat.at_ {w : World} {S : Nat → Prop} {A : Option Addr} {n c : Nat} {d : RM.Dl} (h : Dat w S (.slice A n c) d) {i : Nat} {x : RM.Dm} (hx : d.at_ i = some x) :
    ∃ g v, A = some ⟨g, 0, none⟩ ∧ g < w.heap.size ∧ w.cell? ⟨g, i * 4, none⟩ = some (.int .i64 x.k) ∧ w.cell? ⟨g, i * 4 + 1, none⟩ = some (.int .i64 x.n) ∧ w.cell? ⟨g, i * 4 + 2, none⟩ = some (.string ⟨x.s.toArray⟩) ∧ w.cell? ⟨g, i * 4 + 3, none⟩ = some v ∧ Dat w S v x.is := by
  obtain ⟨cs, h1, h2, h3⟩ := h
  obtain ⟨v, q0, q1, q2, q3, hd⟩ := h3.at_ hx
  have hl : cs.length = d.len * 4 := h1.1
  have hi : i * 4 + 3 < d.len * 4 := by rw [← hl]; exact (List.getElem?_eq_some_iff.1 q3).1
  obtain ⟨A', c', e, hr⟩ := own_read h1
  injection e with e1 e2 e3
  subst e1
  obtain ⟨g, hg, _, hlt, _⟩ := hr (i * 4) (by omega)
  subst hg
  have at' : ∀ j, j < d.len * 4 → w.cell? ⟨g, j, none⟩ = cs[j]? := fun j hj => by
    obtain ⟨g', hg', _, _, h'⟩ := hr j hj
    cases hg'
    exact h'
  exact ⟨g, v, rfl, hlt, by rw [at' _ (by omega), q0], by rw [at' _ (by omega), q1], by rw [at' _ (by omega), q2], by rw [at' _ (by omega), q3], hd⟩
theorem Dat.len {w : World} {S : Nat → Prop} {v : Value} {d : RM.Dl} (h : Dat w S v d) : d.len ≤ 9223372036854775807 := by
  obtain ⟨cs, h1, _⟩ := h
  rcases h1.2 with ⟨_, hn⟩ | ⟨g, cap, cur, _, _, _, hc, hm, _⟩
  · omega
  · unfold maxLen at hm; omega
theorem Dat.drew {w : World} {S : Nat → Prop} {v : Value} {d : RM.Dl} (h : Dat w S v d) : Dat w.drew S v d := h.turns (Turns.refl (fun _ => False) w).drew (fun _ _ _ h => h)
/-- what holds of all data of a row that is made of such -/
theorem RM.Dl.all_of (P : RM.Dm → Prop) (hP : ∀ k n s is, (∀ i x, RM.Dl.at_ is i = some x → P x) → P ⟨k, n, s, is⟩) : ∀ (d : RM.Dl) (i : Nat) (x : RM.Dm), d.at_ i = some x → P x
  | .nil, i, x, h => by simp [RM.Dl.at_] at h
  | .cons k n s is r, 0, x, h => by
    simp only [RM.Dl.at_, Option.some.injEq] at h
    subst h
    exact hP k n s is (RM.Dl.all_of P hP is)
  | .cons k n s is r, i + 1, x, h => RM.Dl.all_of P hP r i x h
def dtv (x : RM.Dm) (v : Value) : Value := .agg #[.int .i64 x.k, .int .i64 x.n, .string ⟨x.s.toArray⟩, v]

/-- four cells of a block are stored anew -/
def four (w : World) (g : Nat) (x0 x1 x2 x3 : Value) : World := (((w.setCell ⟨g, 0, none⟩ x0).setCell ⟨g, 1, none⟩ x1).setCell ⟨g, 2, none⟩ x2).setCell ⟨g, 3, none⟩ x3
section
variable {w a : World} {g h B : Nat} {t : TypeId} {cs : List Value} {X : Nat → Prop}
theorem four_far (hL : Lies w h t cs) (hne : h ≠ g) (x0 x1 x2 x3 : Value) : Lies (four w g x0 x1 x2 x3) h t cs :=
  (((hL.far (p := ⟨g, 0, none⟩) hne _).far (p := ⟨g, 1, none⟩) hne _).far (p := ⟨g, 2, none⟩) hne _).far (p := ⟨g, 3, none⟩) hne _
theorem four_lies {y0 y1 y2 y3 : Value} (hL : Lies w g t [y0, y1, y2, y3]) (x0 x1 x2 x3 : Value) : Lies (four w g x0 x1 x2 x3) g t [x0, x1, x2, x3] :=
  (((hL.stored 0 x0).stored 1 x1).stored 2 x2).stored 3 x3
theorem four_below (h : Below B a w) (hg : B ≤ g) (x0 x1 x2 x3 : Value) : Below B a (four w g x0 x1 x2 x3) :=
  (((h.setCell (p := ⟨g, 0, none⟩) hg _).setCell (p := ⟨g, 1, none⟩) hg _).setCell (p := ⟨g, 2, none⟩) hg _).setCell (p := ⟨g, 3, none⟩) hg _
theorem four_turns (h : Turns X a w) (hg : a.heap.size ≤ g) (x0 x1 x2 x3 : Value) : Turns X a (four w g x0 x1 x2 x3) :=
  have no : ∀ o, (⟨g, o, none⟩ : Addr).block < a.heap.size → X g := fun o hh => absurd hh (by simp; omega)
  (((h.setCell (p := ⟨g, 0, none⟩) (no 0) _).setCell (p := ⟨g, 1, none⟩) (no 1) _).setCell (p := ⟨g, 2, none⟩) (no 2) _).setCell (p := ⟨g, 3, none⟩) (no 3) _
theorem four_one (w : World) (g : Nat) (x0 x1 x2 x3 : Value) : Turns (fun k => k = g) w (four w g x0 x1 x2 x3) :=
  ((((Turns.refl (fun k => k = g) w).setCell (p := ⟨g, 0, none⟩) (fun _ => rfl) _).setCell (p := ⟨g, 1, none⟩) (fun _ => rfl) _).setCell (p := ⟨g, 2, none⟩) (fun _ => rfl) _).setCell (p := ⟨g, 3, none⟩) (fun _ => rfl) _
end
theorem own_lit4b (w : World) (o : Obj) (t : TypeId) (cs : Array Value) (hs : cs.size = 4 := by rfl) : ((w.alloc o).alloc (.cells cs t)).ownsRow 0 t 4 (.slice (some ⟨w.heap.size + 1, 0, none⟩) 1 1) 1 cs.toList := by
  have := own_one (e := t) (sz := 4) (B := 0) (w.alloc o) cs hs (Nat.zero_le _)
  rwa [show (w.alloc o).heap.size = w.heap.size + 1 by simp] at this
end Go.Proofs.YthfelkcomhflnaaDoor
