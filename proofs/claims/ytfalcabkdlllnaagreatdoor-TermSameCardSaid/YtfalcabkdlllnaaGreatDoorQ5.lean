/- Data in memory: rows of data within rows, each in a block of its own; how they stay, and append. -/
import Derived.Test.YtfalcabkdlllnaaGreatDoorQ3
import Derived.Test.YtfalcabkdlllnaaGreatDoorQ4
import Derived.Lib.ItoaLen
namespace Go.Proofs.YtfalcabkdlllnaaGreatDoor
open Go.RowKit

theorem Tryz.infoDatum : (Tryz.prog.info? 25).map (fun i => (i.zero, i.size, i.bytes)) = some (some (.agg #[.int .i64 0, .int .i64 0, .string ⟨#[]⟩, .slice none 0 0]), 4, 56) := by kernel_rfl
/-- a row's cells: each datum's kind, number, text and items, which lie in rows of their own; S says which blocks these rows may lie in -/
def DatAt (w : World) (S : Nat → Prop) : RM.Dl → List Value → Prop
  | .nil, cs => cs = []
  | .cons k n s is r, cs => ∃ v c1 c2, cs = [.int .i64 k, .int .i64 n, .string ⟨s.toArray⟩, v] ++ c2 ∧ w.ownsRow 0 25 4 v is.len c1 ∧ (∀ g, v.ownBlock = some g → S g) ∧ DatAt w S is c1 ∧ DatAt w S r c2
/-- v is the row of these data -/
def Dat (w : World) (S : Nat → Prop) (v : Value) (d : RM.Dl) : Prop := ∃ cs, w.ownsRow 0 25 4 v d.len cs ∧ (∀ g, v.ownBlock = some g → S g) ∧ DatAt w S d cs
/-- v is the row of these data, in blocks of S, and none of the rows within it lies in v's own block -/
def Its (w : World) (S : Nat → Prop) (v : Value) (d : RM.Dl) : Prop := ∃ cs, w.ownsRow 0 25 4 v d.len cs ∧ (∀ g, v.ownBlock = some g → S g) ∧ DatAt w (fun g => S g ∧ v.ownBlock ≠ some g) d cs
section
variable {w w' : World} {S S' X : Nat → Prop} {B : Nat} {v v' : Value}
theorem DatAt.mono (hS : ∀ g, g < w.heap.size → S g → S' g) : ∀ {d : RM.Dl} {cs : List Value}, DatAt w S d cs → DatAt w S' d cs
  | .nil, _, h => h
  | .cons _ _ _ _ _, _, ⟨v, c1, c2, h1, h2, h3, h4, h5⟩ => ⟨v, c1, c2, h1, h2, fun g hg => hS g (World.ownsRow.lt h2 g hg).2 (h3 g hg), DatAt.mono hS h4, DatAt.mono hS h5⟩
theorem DatAt.turns (k : Turns X w w') (hX : ∀ g, g < w.heap.size → S g → ¬ X g) : ∀ {d : RM.Dl} {cs : List Value}, DatAt w S d cs → DatAt w' S d cs
  | .nil, _, h => h
  | .cons _ _ _ _ _, _, ⟨v, c1, c2, h1, h2, h3, h4, h5⟩ => ⟨v, c1, c2, h1, own_turns h2 k (fun g hg => hX g (World.ownsRow.lt h2 g hg).2 (h3 g hg)), h3, DatAt.turns k hX h4, DatAt.turns k hX h5⟩
theorem DatAt.one : ∀ {d : RM.Dl} {cs : List Value}, DatAt w S d cs → ∀ u ∈ cs, u.oneCell' = true
  | .nil, cs, h => by rw [show cs = [] from h]; simp
  | .cons _ _ _ _ _, cs, ⟨v, c1, c2, h1, h2, h3, h4, h5⟩ => by
    intro u hu
    rw [h1] at hu
    have hv : v.oneCell' = true := by
      rcases h2.2 with ⟨rfl, _⟩ | ⟨g, cap, cur, rfl, _⟩ <;> rfl
    rcases List.mem_append.1 hu with hu | hu
    · simp only [List.mem_cons, List.not_mem_nil, or_false] at hu
      rcases hu with rfl | rfl | rfl | rfl <;> first | rfl | exact hv
    · exact DatAt.one h5 u hu
theorem DatAt.app : ∀ {d e : RM.Dl} {cs es : List Value}, DatAt w S d cs → DatAt w S e es → DatAt w S (d.app e) (cs ++ es)
  | .nil, e, cs, es, h, k => by rw [show cs = [] from h]; exact k
  | .cons _ _ _ _ _, e, cs, es, ⟨v, c1, c2, h1, h2, h3, h4, h5⟩, k => ⟨v, c1, c2 ++ es, by rw [h1, List.append_assoc], h2, h3, h4, DatAt.app h5 k⟩
theorem Dat.mono {d : RM.Dl} (h : Dat w S v d) (hS : ∀ g, g < w.heap.size → S g → S' g) : Dat w S' v d := by
  obtain ⟨cs, h1, h2, h3⟩ := h
  exact ⟨cs, h1, fun g hg => hS g (World.ownsRow.lt h1 g hg).2 (h2 g hg), h3.mono hS⟩
theorem Dat.turns {d : RM.Dl} (h : Dat w S v d) (k : Turns X w w') (hX : ∀ g, g < w.heap.size → S g → ¬ X g) : Dat w' S v d := by
  obtain ⟨cs, h1, h2, h3⟩ := h
  exact ⟨cs, own_turns h1 k (fun g hg => hX g (World.ownsRow.lt h1 g hg).2 (h2 g hg)), h2, h3.turns k hX⟩
theorem Dat.below {d : RM.Dl} (h : Dat w S v d) (k : Below w.heap.size w w') : Dat w' S v d := h.turns (Turns.of_below k (fun _ => False)) (fun _ _ _ h => h)
theorem Dat.nil (w : World) (S : Nat → Prop) : Dat w S (.slice none 0 0) .nil := ⟨[], own_none w 0 _ 4, (fun g hg => by cases hg), rfl⟩
theorem Its.nil (w : World) (S : Nat → Prop) : Its w S (.slice none 0 0) .nil := ⟨[], own_none w 0 _ 4, (fun g hg => by cases hg), rfl⟩
theorem Its.turns {d : RM.Dl} (h : Its w S v d) (k : Turns X w w') (hX : ∀ g, g < w.heap.size → S g → ¬ X g) : Its w' S v d := by
  obtain ⟨cs, h1, h2, h3⟩ := h
  exact ⟨cs, own_turns h1 k (fun g hg => hX g (World.ownsRow.lt h1 g hg).2 (h2 g hg)), h2, h3.turns k (fun g hg hs => hX g hg hs.1)⟩
theorem Its.below {d : RM.Dl} (h : Its w S v d) (k : Below w.heap.size w w') : Its w' S v d := h.turns (Turns.of_below k (fun _ => False)) (fun _ _ _ h => h)
theorem Its.mono {d : RM.Dl} (h : Its w S v d) (hS : ∀ g, g < w.heap.size → S g → S' g) : Its w S' v d := by
  obtain ⟨cs, h1, h2, h3⟩ := h
  exact ⟨cs, h1, fun g hg => hS g (World.ownsRow.lt h1 g hg).2 (h2 g hg), h3.mono (fun g hg hs => ⟨hS g hg hs.1, hs.2⟩)⟩
theorem Its.dat {d : RM.Dl} (h : Its w S v d) : Dat w S v d := by
  obtain ⟨cs, h1, h2, h3⟩ := h
  exact ⟨cs, h1, h2, h3.mono (fun g _ hs => hs.1)⟩
theorem Its.lt {d : RM.Dl} (h : Its w S v d) : ∀ g, v.ownBlock = some g → S g ∧ g < w.heap.size := by
  obtain ⟨cs, h1, h2, _⟩ := h
  exact fun g hg => ⟨h2 g hg, (World.ownsRow.lt h1 g hg).2⟩
theorem Its.read {d : RM.Dl} (h : Its w S v d) : ∃ A c, v = .slice A d.len c := by
  obtain ⟨cs, h1, _⟩ := h
  obtain ⟨A, c, e, _⟩ := own_read h1
  exact ⟨A, c, e⟩
theorem Dat.read {d : RM.Dl} (h : Dat w S v d) : ∃ A c, v = .slice A d.len c := by
  obtain ⟨cs, h1, _⟩ := h
  obtain ⟨A, c, e, _⟩ := own_read h1
  exact ⟨A, c, e⟩
/-- behind an append, in a world w2 that has kept what w had: the new row -/
theorem Its.grew {d e : RM.Dl} {cs es : List Value} {x : Value} {w2 : World} (h0 : ∀ g, v.ownBlock = some g → S g ∧ g < w.heap.size) (h' : DatAt w (fun g => S g ∧ v.ownBlock ≠ some g) d cs)
    (k' : DatAt w (fun g => S g ∧ v.ownBlock ≠ some g) e es) (k2 : Turns (fun _ => False) w w2) (hr : w'.ownsRow 0 25 4 x (d.len + e.len) (cs ++ es)) (hg : w2.grownBy w' v.ownBlock) (hat : x.ownBlock = v.ownBlock ∨ x.ownBlock = some w2.heap.size)
    (hS1 : ∀ g, g < w.heap.size → S g → S' g) (hS2 : S' w2.heap.size) : Its w' S' x (d.app e) := by
  have T := Turns.appendedS hg
  have hs := k2.size
  refine ⟨cs ++ es, by rw [RM.Dl.len_app]; exact hr, ?_, DatAt.mono ?_ (DatAt.turns (S := fun g => (S g ∧ v.ownBlock ≠ some g) ∧ g < w.heap.size) T (fun g _ hs => hs.1.2) (DatAt.turns k2 (fun _ _ _ h => h) (DatAt.mono (fun g hg hs => ⟨hs, hg⟩) (h'.app k'))))⟩
  · intro g hg
    rcases hat with e1 | e1
    · rw [e1] at hg; exact hS1 g (h0 g hg).2 (h0 g hg).1
    · rw [e1] at hg; injection hg with hg; subst hg; exact hS2
  · intro g _ hs
    refine ⟨hS1 g hs.2 hs.1.1, ?_⟩
    rcases hat with e1 | e1
    · rw [e1]; exact hs.1.2
    · rw [e1]
      intro hh
      injection hh with hh
      have := hs.2
      omega
/-- one datum's cells -/
theorem DatAt.cell1 {d : RM.Dm} (h : Dat w S v d.is) : DatAt w S (.one d) [.int .i64 d.k, .int .i64 d.n, .string ⟨d.s.toArray⟩, v] := by
  obtain ⟨cs, h1, h2, h3⟩ := h
  exact ⟨v, cs, [], rfl, h1, h2, h3, rfl⟩
end
end Go.Proofs.YtfalcabkdlllnaaGreatDoor

/- Data in memory, one of a row at a time; what holds of all data that are made of such. -/
namespace Go.Proofs.YtfalcabkdlllnaaGreatDoor
open Go.ChangeShapes Go.WideShapes Go.ChangeAt Go.RowKit

/-- the datum at a place of a row -/
def RM.Dl.at_ : RM.Dl → Nat → Option RM.Dm
  | .nil, _ => none
  | .cons k n s is _, 0 => some ⟨k, n, s, is⟩
  | .cons _ _ _ _ r, i + 1 => r.at_ i
theorem RM.Dl.at_some : ∀ (d : RM.Dl) (i : Nat), i < d.len → ∃ x, d.at_ i = some x
  | .nil, i, h => by simp [RM.Dl.len] at h
  | .cons k n s is r, 0, h => ⟨⟨k, n, s, is⟩, rfl⟩
  | .cons k n s is r, i + 1, h => RM.Dl.at_some r i (by simp only [RM.Dl.len] at h; omega)
theorem DatAt.at_ {w : World} {S : Nat → Prop} : ∀ {d : RM.Dl} {cs : List Value} {i : Nat} {x : RM.Dm}, DatAt w S d cs → d.at_ i = some x →
    ∃ v, cs[i * 4]? = some (.int .i64 x.k) ∧ cs[i * 4 + 1]? = some (.int .i64 x.n) ∧ cs[i * 4 + 2]? = some (.string ⟨x.s.toArray⟩) ∧ cs[i * 4 + 3]? = some v ∧ Dat w S v x.is
  | .nil, _, _, _, _, hx => by simp [RM.Dl.at_] at hx
  | .cons k n s is r, cs, 0, x, ⟨v, c1, c2, h1, h2, h3, h4, h5⟩, hx => by
    simp only [RM.Dl.at_, Option.some.injEq] at hx
    subst hx
    subst h1
    exact ⟨v, rfl, rfl, rfl, rfl, c1, h2, h3, h4⟩
  | .cons k n s is r, cs, i + 1, x, ⟨v, c1, c2, h1, h2, h3, h4, h5⟩, hx => by
    obtain ⟨v', q0, q1, q2, q3, hd⟩ := DatAt.at_ h5 (show r.at_ i = some x from hx)
    subst h1
    have e : ∀ j, ([Value.int .i64 k, .int .i64 n, .string ⟨s.toArray⟩, v] ++ c2)[(i + 1) * 4 + j]? = c2[i * 4 + j]? := fun j => by
      rw [List.getElem?_append_right (by simp; omega)]
      congr 1
      simp; omega
    exact ⟨v', by rw [← q0]; exact e 0, by rw [← q1]; exact e 1, by rw [← q2]; exact e 2, by rw [← q3]; exact e 3, hd⟩
theorem Dat.at_ {w : World} {S : Nat → Prop} {A : Option Addr} {n c : Nat} {d : RM.Dl} (h : Dat w S (.slice A n c) d) {i : Nat} {x : RM.Dm} (hx : d.at_ i = some x) :
    ∃ g v, A = some ⟨g, 0, none⟩ ∧ g < w.heap.size ∧ w.cell? ⟨g, i * 4, none⟩ = some (.int .i64 x.k) ∧ w.cell? ⟨g, i * 4 + 1, none⟩ = some (.int .i64 x.n) ∧ w.cell? ⟨g, i * 4 + 2, none⟩ = some (.string ⟨x.s.toArray⟩) ∧ w.cell? ⟨g, i * 4 + 3, none⟩ = some v ∧ Dat w S v x.is := by
  obtain ⟨cs, h1, h2, h3⟩ := h
  obtain ⟨v, q0, q1, q2, q3, hd⟩ := h3.at_ hx
  have hl : cs.length = d.len * 4 := h1.1
  have hi : i * 4 + 3 < d.len * 4 := by rw [← hl]; exact (List.getElem?_eq_some_iff.1 q3).1
  obtain ⟨A', c', e, hr⟩ := own_read h1
  injection e with e1 e2 e3
  subst e1
  obtain ⟨g, hg, _, hlt, _⟩ := hr (i * 4) (by omega)
  subst hg
  have at' : ∀ j, j < d.len * 4 → w.cell? ⟨g, j, none⟩ = cs[j]? := fun j hj => by
    obtain ⟨g', hg', _, _, h'⟩ := hr j hj
    cases hg'
    exact h'
  exact ⟨g, v, rfl, hlt, by rw [at' _ (by omega), q0], by rw [at' _ (by omega), q1], by rw [at' _ (by omega), q2], by rw [at' _ (by omega), q3], hd⟩
theorem Dat.len {w : World} {S : Nat → Prop} {v : Value} {d : RM.Dl} (h : Dat w S v d) : d.len ≤ 9223372036854775807 := by
  obtain ⟨cs, h1, _⟩ := h
  rcases h1.2 with ⟨_, hn⟩ | ⟨g, cap, cur, _, _, _, hc, hm, _⟩
  · omega
  · unfold maxLen at hm; omega
theorem Dat.drew {w : World} {S : Nat → Prop} {v : Value} {d : RM.Dl} (h : Dat w S v d) : Dat w.drew S v d := h.turns (Turns.refl (fun _ => False) w).drew (fun _ _ _ h => h)
/-- what holds of all data of a row that is made of such -/
theorem RM.Dl.all_of (P : RM.Dm → Prop) (hP : ∀ k n s is, (∀ i x, RM.Dl.at_ is i = some x → P x) → P ⟨k, n, s, is⟩) : ∀ (d : RM.Dl) (i : Nat) (x : RM.Dm), d.at_ i = some x → P x
  | .nil, i, x, h => by simp [RM.Dl.at_] at h
  | .cons k n s is r, 0, x, h => by
    simp only [RM.Dl.at_, Option.some.injEq] at h
    subst h
    exact hP k n s is (RM.Dl.all_of P hP is)
  | .cons k n s is r, i + 1, x, h => RM.Dl.all_of P hP r i x h
def dtv (x : RM.Dm) (v : Value) : Value := .agg #[.int .i64 x.k, .int .i64 x.n, .string ⟨x.s.toArray⟩, v]

/-- four cells of a block are stored anew -/
def four (w : World) (g : Nat) (x0 x1 x2 x3 : Value) : World := (((w.setCell ⟨g, 0, none⟩ x0).setCell ⟨g, 1, none⟩ x1).setCell ⟨g, 2, none⟩ x2).setCell ⟨g, 3, none⟩ x3
section
variable {w a : World} {g h B : Nat} {t : TypeId} {cs : List Value} {X : Nat → Prop}
theorem four_far (hL : Lies w h t cs) (hne : h ≠ g) (x0 x1 x2 x3 : Value) : Lies (four w g x0 x1 x2 x3) h t cs :=
  (((hL.far (p := ⟨g, 0, none⟩) hne _).far (p := ⟨g, 1, none⟩) hne _).far (p := ⟨g, 2, none⟩) hne _).far (p := ⟨g, 3, none⟩) hne _
theorem four_lies {y0 y1 y2 y3 : Value} (hL : Lies w g t [y0, y1, y2, y3]) (x0 x1 x2 x3 : Value) : Lies (four w g x0 x1 x2 x3) g t [x0, x1, x2, x3] :=
  (((hL.stored 0 x0).stored 1 x1).stored 2 x2).stored 3 x3
theorem four_below (h : Below B a w) (hg : B ≤ g) (x0 x1 x2 x3 : Value) : Below B a (four w g x0 x1 x2 x3) :=
  (((h.setCell (p := ⟨g, 0, none⟩) hg _).setCell (p := ⟨g, 1, none⟩) hg _).setCell (p := ⟨g, 2, none⟩) hg _).setCell (p := ⟨g, 3, none⟩) hg _
theorem four_turns (h : Turns X a w) (hg : a.heap.size ≤ g) (x0 x1 x2 x3 : Value) : Turns X a (four w g x0 x1 x2 x3) :=
  have no : ∀ o, (⟨g, o, none⟩ : Addr).block < a.heap.size → X g := fun o hh => absurd hh (by simp; omega)
  (((h.setCell (p := ⟨g, 0, none⟩) (no 0) _).setCell (p := ⟨g, 1, none⟩) (no 1) _).setCell (p := ⟨g, 2, none⟩) (no 2) _).setCell (p := ⟨g, 3, none⟩) (no 3) _
theorem four_one (w : World) (g : Nat) (x0 x1 x2 x3 : Value) : Turns (fun k => k = g) w (four w g x0 x1 x2 x3) :=
  ((((Turns.refl (fun k => k = g) w).setCell (p := ⟨g, 0, none⟩) (fun _ => rfl) _).setCell (p := ⟨g, 1, none⟩) (fun _ => rfl) _).setCell (p := ⟨g, 2, none⟩) (fun _ => rfl) _).setCell (p := ⟨g, 3, none⟩) (fun _ => rfl) _
end
theorem own_lit4b (w : World) (o : Obj) (t : TypeId) (cs : Array Value) (hs : cs.size = 4 := by rfl) : ((w.alloc o).alloc (.cells cs t)).ownsRow 0 t 4 (.slice (some ⟨w.heap.size + 1, 0, none⟩) 1 1) 1 cs.toList := by
  have := own_one (e := t) (sz := 4) (B := 0) (w.alloc o) cs hs (Nat.zero_le _)
  rwa [show (w.alloc o).heap.size = w.heap.size + 1 by simp] at this
end Go.Proofs.YtfalcabkdlllnaaGreatDoor

/- The plain mathematics of layer 9: how deep data are, how many parts they have, which are right, their texts. No dump is read here. -/
namespace Go.Proofs.YtfalcabkdlllnaaGreatDoor.SM
open Go.RowKit RM

/-- how many stand within one another -/
def hi : Dl → Nat
  | .nil => 0
  | .cons _ _ _ is r => max (hi is + 1) (hi r)
/-- how many there are, with all within them -/
def sz : Dl → Nat
  | .nil => 0
  | .cons _ _ _ is r => sz is + 1 + sz r
/-- the data from a place on -/
def dr : Dl → Nat → Dl
  | d, 0 => d
  | .nil, _ + 1 => .nil
  | .cons _ _ _ _ r, i + 1 => dr r i
/-- the last one's kind -/
def lastk : Dl → Int
  | .nil => 0
  | .cons k _ _ _ r => if r.len = 0 then k else lastk r
theorem dr_at : ∀ (d : Dl) (i : Nat) (x : Dm), d.at_ i = some x → dr d i = .cons x.k x.n x.s x.is (dr d (i + 1))
  | .nil, i, x, h => by simp [Dl.at_] at h
  | .cons k n s is r, 0, x, h => by
    simp only [Dl.at_, Option.some.injEq] at h
    subst h
    cases r <;> rfl
  | .cons k n s is r, i + 1, x, h => by
    show dr r i = .cons x.k x.n x.s x.is (dr r (i + 1))
    exact dr_at r i x h
theorem dr_end : ∀ (d : Dl) (i : Nat), d.len ≤ i → dr d i = .nil
  | .nil, 0, _ => rfl
  | .nil, i + 1, _ => rfl
  | .cons k n s is r, 0, h => by simp [Dl.len] at h
  | .cons k n s is r, i + 1, h => dr_end r i (by simp only [Dl.len] at h; omega)
theorem dr_len : ∀ (d : Dl) (i : Nat), (dr d i).len = d.len - i
  | d, 0 => by simp [dr]
  | .nil, i + 1 => by simp [dr, Dl.len]
  | .cons k n s is r, i + 1 => by rw [dr, dr_len r i, Dl.len]; omega
theorem dr_zero (d : Dl) : dr d 0 = d := by cases d <;> rfl
theorem lastk_at : ∀ (d : Dl) (x : Dm), d.at_ (d.len - 1) = some x → lastk d = x.k
  | .nil, x, h => by simp [Dl.at_] at h
  | .cons k n s is r, x, h => by
    unfold lastk
    by_cases hr : r.len = 0
    · rw [if_pos hr]
      rw [show (Dl.cons k n s is r).len - 1 = 0 by simp [Dl.len, hr]] at h
      simp only [Dl.at_, Option.some.injEq] at h
      subst h; rfl
    · rw [if_neg hr]
      apply lastk_at r x
      rw [show (Dl.cons k n s is r).len - 1 = (r.len - 1) + 1 by simp only [Dl.len]; omega] at h
      exact h

/-- are a datum's fields as its kind asks for? -/
def kd (k n : Int) (s : List UInt8) (is : Dl) : Bool :=
  if k = 1 then decide (is.len = 0) && decide (s = []) && decide (-1152921504606846976 ≤ n ∧ n ≤ 1152921504606846975)
  else if k = 2 then decide (is.len = 0) && decide (s = []) && decide (n = 0 ∨ n = 1)
  else if k = 3 then decide (is.len = 0) && decide (s = []) && decide (0 ≤ n ∧ n ≤ 255)
  else if k = 4 then decide (is.len = 0) && decide (n = 0) && decide (s.length ≤ 500)
  else if k = 5 then decide (is.len = 0) && decide (n = 0) && LM.sym s
  else if k = 6 ∨ k = 8 then decide (n = 0) && decide (s = [])
  else if k = 7 then decide (n = 0) && decide (s = []) && decide (2 ≤ is.len) && decide (lastk is ≠ 6 ∧ lastk is ≠ 7)
  else false
def rgt : Dl → Bool
  | .nil => true
  | .cons k n s is r => kd k n s is && rgt is && rgt r
theorem rgt_none {d : Dl} (h : d.len = 0) : rgt d = true := by
  cases d with
  | nil => rfl
  | cons => simp [Dl.len] at h
theorem rgt_at : ∀ (d : Dl) (i : Nat) (x : Dm), d.at_ i = some x → rgt d = true → kd x.k x.n x.s x.is = true ∧ rgt x.is = true
  | .nil, i, x, h, _ => by simp [Dl.at_] at h
  | .cons k n s is r, 0, x, h, hr => by
    simp only [Dl.at_, Option.some.injEq] at h
    subst h
    simp only [rgt, Bool.and_eq_true] at hr
    exact hr.1
  | .cons k n s is r, i + 1, x, h, hr => by
    simp only [rgt, Bool.and_eq_true] at hr
    exact rgt_at r i x h hr.2
/-- a datum is right: few parts, not too deep, each as it should be -/
def okd (x : Dm) : Bool := decide (sz x.is + 1 ≤ 4000) && decide (hi x.is + 1 ≤ 64) && (kd x.k x.n x.s x.is && rgt x.is)

/-! ### texts -/
def chr (c : Int) : List UInt8 :=
  if c < 0 ∨ 255 < c then []
  else if c = 32 then [35, 92, 115, 112, 97, 99, 101]
  else if c = 10 then [35, 92, 110, 101, 119, 108, 105, 110, 101]
  else if c = 9 then [35, 92, 116, 97, 98]
  else if c = 0 then [35, 92, 110, 117, 108]
  else [35, 92, UInt8.ofNat c.toNat]
def es (c : UInt8) : List UInt8 := if c = 10 then [92, 110] else if c = 9 then [92, 116] else if c = 92 ∨ c = 34 then [92, c] else [c]
def esl : List UInt8 → List UInt8
  | [] => []
  | c :: r => es c ++ esl r
theorem esl_snoc : ∀ (l : List UInt8) (c : UInt8), esl (l ++ [c]) = esl l ++ es c
  | [], c => by simp [esl]
  | d :: r, c => by rw [List.cons_append, esl, esl, esl_snoc r c, List.append_assoc]
theorem es_len (c : UInt8) : 1 ≤ (es c).length ∧ (es c).length ≤ 2 := by
  unfold es
  split
  · simp
  · split
    · simp
    · split <;> simp
theorem esl_len : ∀ l : List UInt8, (esl l).length ≤ 2 * l.length
  | [] => by simp [esl]
  | c :: r => by have := esl_len r; have := (es_len c).2; simp [esl]; omega
def quo (s : List UInt8) : List UInt8 := 34 :: (esl s ++ [34])
/-- a datum's text, of the text of its items -/
def one (p : Bool) (k n : Int) (s inner : List UInt8) : List UInt8 :=
  if k = 1 then Lib.itoa n
  else if k = 2 then (if n = 0 then [35, 102] else [35, 116])
  else if k = 3 then (if p then [UInt8.ofNat n.toNat] else chr n)
  else if k = 4 then (if p then s else quo s)
  else if k = 5 then s
  else (if k = 8 then [35, 40] else [40]) ++ (inner ++ [41])
/-- the texts of items, from one on: dot: a full stop stands ahead of the last; first: nothing stands ahead of these -/
def tl (p dot : Bool) : Bool → Dl → List UInt8
  | _, .nil => []
  | first, .cons k n s is r => (if first then [] else [32]) ++ ((if dot && decide (r.len = 0) then [46, 32] else []) ++ (one p k n s (tl p (decide (k = 7)) true is) ++ tl p dot false r))
def txt (p : Bool) (x : Dm) : List UInt8 := one p x.k x.n x.s (tl p (decide (x.k = 7)) true x.is)
theorem chr_len (c : Int) : (chr c).length ≤ 9 := by
  unfold chr
  split
  · simp
  · split
    · simp
    · split
      · simp
      · split
        · simp
        · split <;> simp
theorem one_len {p : Bool} {k n : Int} {s inner : List UInt8} {is : Dl} (h : kd k n s is = true) (hs : 4 ≤ k → k ≤ 5 → s.length ≤ 500) : (one p k n s inner).length ≤ 1002 + inner.length := by
  unfold one
  split
  · rename_i h1
    subst h1
    have hb : -1152921504606846976 ≤ n ∧ n ≤ 1152921504606846975 := by simp [kd] at h; exact h.2
    have := Lib.itoa_length_le n (by omega) (by omega)
    omega
  · split
    · split <;> simp <;> omega
    · split
      · split
        · simp; omega
        · have := chr_len n; omega
      · split
        · rename_i h4
          have := hs (by omega) (by omega)
          split
          · omega
          · have := esl_len s; simp [quo]; omega
        · split
          · rename_i h5
            have := hs (by omega) (by omega)
            omega
          · split <;> simp <;> omega
theorem sym_short {s : List UInt8} (h : LM.sym s = true) : s.length ≤ 60 := by
  unfold LM.sym at h
  simp only [Bool.and_eq_true, decide_eq_true_eq] at h
  omega
theorem kd_short {k n : Int} {s : List UInt8} {is : Dl} (h : kd k n s is = true) (h4 : 4 ≤ k) (h5 : k ≤ 5) : s.length ≤ 500 := by
  rcases (show k = 4 ∨ k = 5 by omega) with rfl | rfl
  · simp [kd] at h; exact h.2
  · simp [kd] at h; have := sym_short h.2; omega
theorem tl_len (p : Bool) : ∀ (d : Dl) (dot first : Bool), rgt d = true → (tl p dot first d).length ≤ 1010 * sz d
  | .nil, dot, first, _ => by simp [tl]
  | .cons k n s is r, dot, first, h => by
    simp only [rgt, Bool.and_eq_true] at h
    have h1 := tl_len p r dot false h.2
    have h2 := tl_len p is (decide (k = 7)) true h.1.2
    have h3 := one_len (p := p) (inner := tl p (decide (k = 7)) true is) h.1.1 (kd_short h.1.1)
    have h4 : (if first then ([] : List UInt8) else [32]).length ≤ 1 := by split <;> simp
    have h5 : (if dot && decide (r.len = 0) then ([46, 32] : List UInt8) else []).length ≤ 2 := by split <;> simp
    simp only [tl, List.length_append, sz]
    omega
theorem txt_len (p : Bool) (x : Dm) (h : kd x.k x.n x.s x.is = true) (hr : rgt x.is = true) : (txt p x).length ≤ 1010 * (sz x.is + 1) := by
  have h2 := tl_len p x.is (decide (x.k = 7)) true hr
  have h3 := one_len (p := p) (inner := tl p (decide (x.k = 7)) true x.is) h (kd_short h)
  unfold txt
  omega
end Go.Proofs.YtfalcabkdlllnaaGreatDoor.SM
