/- Terms in memory: those that can be read, wherever they lie (also shared). -/
import Derived.Test.YthfelkcomhflnaaDoorQ8
import Derived.Test.YthfelkcomhflnaaDoorQ9
import Derived.Test.YthfelkcomhflnaaDoorInts
namespace Go.Proofs.YthfelkcomhflnaaDoor
open Go.ChangeShapes Go.WideShapes Go.ChangeAt Go.RowKit Go.Deep
open TM (Tl Tm)

/-- v is a slice of these ints -/
def PIn (w : World) (v : Value) (l : List Int) : Prop :=
  ∃ A c, v = .slice A l.length c ∧ l.length ≤ 9223372036854775807 ∧ ∃ b o, (0 < l.length → A = some ⟨b, o, none⟩ ∧ b < w.heap.size) ∧ ∀ (j : Nat) (x : Int), l[j]? = some x → w.cell? ⟨b, o + j, none⟩ = some (.int .i64 x)
/-- these terms lie in block b from o on -/
def TInAt (w : World) : Tl → Nat → Nat → Prop
  | .nil, _, _ => True
  | .cons k n s ps d ks r, b, o => b < w.heap.size ∧ w.cell? ⟨b, o, none⟩ = some (.int .i64 k) ∧ w.cell? ⟨b, o + 1, none⟩ = some (.int .i64 n) ∧ w.cell? ⟨b, o + 2, none⟩ = some (.string ⟨s.toArray⟩)
      ∧ (∃ v, w.cell? ⟨b, o + 3, none⟩ = some v ∧ PIn w v ps)
      ∧ w.cell? ⟨b, o + 4, none⟩ = some (.int .i64 d.k) ∧ w.cell? ⟨b, o + 5, none⟩ = some (.int .i64 d.n) ∧ w.cell? ⟨b, o + 6, none⟩ = some (.string ⟨d.s.toArray⟩)
      ∧ (∃ v, w.cell? ⟨b, o + 7, none⟩ = some v ∧ In w v d.is)
      ∧ (∃ A c, w.cell? ⟨b, o + 8, none⟩ = some (.slice A ks.len c) ∧ ks.len ≤ 9223372036854775807 ∧ ∃ b' o', (0 < ks.len → A = some ⟨b', o', none⟩) ∧ TInAt w ks b' o') ∧ TInAt w r b (o + 9)
/-- v is a slice of these terms -/
def TIn (w : World) (v : Value) (t : Tl) : Prop := ∃ A c, v = .slice A t.len c ∧ t.len ≤ 9223372036854775807 ∧ ∃ b o, (0 < t.len → A = some ⟨b, o, none⟩) ∧ TInAt w t b o
/-- a term's value, by the slices of its Params, of its datum's Items, and of its Kids -/
def tmv (t : Tm) (vp vi vk : Value) : Value := .agg #[.int .i64 t.k, .int .i64 t.n, .string ⟨t.s.toArray⟩, vp, .int .i64 t.d.k, .int .i64 t.d.n, .string ⟨t.d.s.toArray⟩, vi, vk]
structure TmIn (w : World) (t : Tm) (vp vi vk : Value) : Prop where
  p : PIn w vp t.ps
  d : In w vi t.d.is
  k : TIn w vk t.ks
/-- w' agrees with w on the blocks of D -/
structure Agr (D : Nat → Prop) (w w' : World) : Prop where
  size : w.heap.size ≤ w'.heap.size
  block : ∀ g, g < w.heap.size → D g → w'.heap[g]? = w.heap[g]?

section
variable {w w' w2 : World} {v : Value} {D D' X : Nat → Prop}
theorem Agr.refl (D : Nat → Prop) (w : World) : Agr D w w := ⟨Nat.le_refl _, fun _ _ _ => rfl⟩
theorem Agr.trans (h : Agr D w w') (k : Agr D w' w2) : Agr D w w2 := ⟨Nat.le_trans h.size k.size, fun g hg hd => (k.block g (Nat.lt_of_lt_of_le hg h.size) hd).trans (h.block g hg hd)⟩
theorem Agr.mono (h : Agr D w w') (hd : ∀ g, g < w.heap.size → D' g → D g) : Agr D' w w' := ⟨h.size, fun g hg hh => h.block g hg (hd g hg hh)⟩
theorem Agr.of_turns (h : Turns X w w') (hx : ∀ g, g < w.heap.size → D g → ¬ X g) : Agr D w w' := ⟨h.size, fun g hg hd => h.block g hg (hx g hg hd)⟩
theorem Agr.of_below (h : Below w.heap.size w w') : Agr D w w' := ⟨h.size, fun g hg _ => h.block g hg⟩
theorem Agr.all (k : Agr (fun g => g < w.heap.size) w w') {p : Addr} (h : p.block < w.heap.size) : w'.cell? p = w.cell? p := by
  unfold World.cell?
  rw [k.block p.block h h]

theorem InAt.agr (k : Agr (fun g => g < w.heap.size) w w') : ∀ {d : RM.Dl} {b o : Nat}, InAt w d b o → InAt w' d b o
  | .nil, _, _, _ => trivial
  | .cons _ _ _ _ _, b, o, ⟨h0, h1, h2, h3, ⟨A, c, h4, hl, b', o', h5, h6⟩, h7⟩ =>
    ⟨Nat.lt_of_lt_of_le h0 k.size, (k.all (p := ⟨b, o, none⟩) h0).trans h1, (k.all (p := ⟨b, o + 1, none⟩) h0).trans h2, (k.all (p := ⟨b, o + 2, none⟩) h0).trans h3,
      ⟨A, c, (k.all (p := ⟨b, o + 3, none⟩) h0).trans h4, hl, b', o', h5, InAt.agr k h6⟩, InAt.agr k h7⟩
theorem In.agr {d : RM.Dl} (h : In w v d) (k : Agr (fun g => g < w.heap.size) w w') : In w' v d := by
  obtain ⟨A, c, e, hl, b, o, h1, h2⟩ := h
  exact ⟨A, c, e, hl, b, o, h1, h2.agr k⟩
theorem PIn.agr {l : List Int} (h : PIn w v l) (k : Agr (fun g => g < w.heap.size) w w') : PIn w' v l := by
  obtain ⟨A, c, e, hl, b, o, h1, h2⟩ := h
  refine ⟨A, c, e, hl, b, o, fun h => ⟨(h1 h).1, Nat.lt_of_lt_of_le (h1 h).2 k.size⟩, fun j x hx => ?_⟩
  have hj := (List.getElem?_eq_some_iff.1 hx).1
  exact (k.all (p := ⟨b, o + j, none⟩) (h1 (by omega)).2).trans (h2 j x hx)
theorem TInAt.agr (k : Agr (fun g => g < w.heap.size) w w') : ∀ {t : Tl} {b o : Nat}, TInAt w t b o → TInAt w' t b o
  | .nil, _, _, _ => trivial
  | .cons _ _ _ _ _ _ _, b, o, ⟨h0, h1, h2, h3, ⟨v, h4, hp⟩, h5, h6, h7, ⟨u, h8, hi⟩, ⟨A, c, h9, hl, b', o', hA, hk⟩, hr⟩ =>
    ⟨Nat.lt_of_lt_of_le h0 k.size, (k.all (p := ⟨b, o, none⟩) h0).trans h1, (k.all (p := ⟨b, o + 1, none⟩) h0).trans h2, (k.all (p := ⟨b, o + 2, none⟩) h0).trans h3,
      ⟨v, (k.all (p := ⟨b, o + 3, none⟩) h0).trans h4, hp.agr k⟩, (k.all (p := ⟨b, o + 4, none⟩) h0).trans h5, (k.all (p := ⟨b, o + 5, none⟩) h0).trans h6, (k.all (p := ⟨b, o + 6, none⟩) h0).trans h7,
      ⟨u, (k.all (p := ⟨b, o + 7, none⟩) h0).trans h8, hi.agr k⟩,
      ⟨A, c, (k.all (p := ⟨b, o + 8, none⟩) h0).trans h9, hl, b', o', hA, TInAt.agr k hk⟩, TInAt.agr k hr⟩
theorem TIn.agr {t : Tl} (h : TIn w v t) (k : Agr (fun g => g < w.heap.size) w w') : TIn w' v t := by
  obtain ⟨A, c, e, hl, b, o, h1, h2⟩ := h
  exact ⟨A, c, e, hl, b, o, h1, h2.agr k⟩
theorem PIn.below {l : List Int} (h : PIn w v l) (k : Below w.heap.size w w') : PIn w' v l := h.agr (Agr.of_below k)
theorem TIn.below {t : Tl} (h : TIn w v t) (k : Below w.heap.size w w') : TIn w' v t := h.agr (Agr.of_below k)
theorem TmIn.agr {t : Tm} {vp vi vk : Value} (h : TmIn w t vp vi vk) (k : Agr (fun g => g < w.heap.size) w w') : TmIn w' t vp vi vk := ⟨h.p.agr k, h.d.agr k, h.k.agr k⟩
theorem TmIn.below {t : Tm} {vp vi vk : Value} (h : TmIn w t vp vi vk) (k : Below w.heap.size w w') : TmIn w' t vp vi vk := h.agr (Agr.of_below k)
theorem PIn.drew {l : List Int} (h : PIn w v l) : PIn w.drew v l := h.below (below_of_drew (w := w) (w' := w.drew) (Below.refl _ _))
theorem TIn.drew {t : Tl} (h : TIn w v t) : TIn w.drew v t := h.below (below_of_drew (w := w) (w' := w.drew) (Below.refl _ _))
theorem TmIn.drew {t : Tm} {vp vi vk : Value} (h : TmIn w t vp vi vk) : TmIn w.drew t vp vi vk := ⟨h.p.drew, h.d.drew, h.k.drew⟩
theorem PIn.len {l : List Int} (h : PIn w v l) : l.length ≤ 9223372036854775807 := by
  obtain ⟨A, c, e, hl, _⟩ := h; exact hl
theorem TIn.len {t : Tl} (h : TIn w v t) : t.len ≤ 9223372036854775807 := by
  obtain ⟨A, c, e, hl, _⟩ := h; exact hl
theorem PIn.read {l : List Int} (h : PIn w v l) : ∃ A c, v = .slice A l.length c := by
  obtain ⟨A, c, e, _⟩ := h; exact ⟨A, c, e⟩
theorem TIn.read {t : Tl} (h : TIn w v t) : ∃ A c, v = .slice A t.len c := by
  obtain ⟨A, c, e, _⟩ := h; exact ⟨A, c, e⟩
theorem PIn.nil (w : World) : PIn w (.slice none 0 0) [] := ⟨none, 0, rfl, by simp, 0, 0, fun h => absurd h (by simp), fun j x h => by simp at h⟩
theorem TIn.nil (w : World) : TIn w (.slice none 0 0) .nil := ⟨none, 0, rfl, by simp [Tl.len], 0, 0, fun h => absurd h (by simp [Tl.len]), trivial⟩
theorem In.nil (w : World) : In w (.slice none 0 0) .nil := ⟨none, 0, rfl, by simp [RM.Dl.len], 0, 0, fun h => absurd h (by simp [RM.Dl.len]), trivial⟩
theorem PIn.cell {A : Option Addr} {n c : Nat} {l : List Int} (h : PIn w (.slice A n c) l) {j : Nat} {x : Int} (hx : l[j]? = some x) : ∃ b o, A = some ⟨b, o, none⟩ ∧ b < w.heap.size ∧ w.cell? ⟨b, o + j, none⟩ = some (.int .i64 x) := by
  obtain ⟨A', c', e, hl, b, o, h1, h2⟩ := h
  injection e with e1 e2 e3
  subst e1
  have hj := (List.getElem?_eq_some_iff.1 hx).1
  obtain ⟨hA, hb⟩ := h1 (by omega)
  exact ⟨b, o, hA, hb, h2 j x hx⟩
theorem TInAt.at_ : ∀ {t : Tl} {b o i : Nat} {x : Tm}, TInAt w t b o → t.at_ i = some x →
    b < w.heap.size ∧ w.cell? ⟨b, o + i * 9, none⟩ = some (.int .i64 x.k) ∧ w.cell? ⟨b, o + i * 9 + 1, none⟩ = some (.int .i64 x.n) ∧ w.cell? ⟨b, o + i * 9 + 2, none⟩ = some (.string ⟨x.s.toArray⟩)
      ∧ w.cell? ⟨b, o + i * 9 + 4, none⟩ = some (.int .i64 x.d.k) ∧ w.cell? ⟨b, o + i * 9 + 5, none⟩ = some (.int .i64 x.d.n) ∧ w.cell? ⟨b, o + i * 9 + 6, none⟩ = some (.string ⟨x.d.s.toArray⟩)
      ∧ ∃ P p I q K r, w.cell? ⟨b, o + i * 9 + 3, none⟩ = some (.slice P x.ps.length p) ∧ w.cell? ⟨b, o + i * 9 + 7, none⟩ = some (.slice I x.d.is.len q) ∧ w.cell? ⟨b, o + i * 9 + 8, none⟩ = some (.slice K x.ks.len r)
        ∧ TmIn w x (.slice P x.ps.length p) (.slice I x.d.is.len q) (.slice K x.ks.len r)
  | .nil, _, _, _, _, _, hx => by simp [Tl.at_] at hx
  | .cons k n s ps d ks r, b, o, 0, x, ⟨h0, h1, h2, h3, ⟨v, h4, hp⟩, h5, h6, h7, ⟨u, h8, hi⟩, ⟨A, c, h9, hl, b', o', hA, hk⟩, hr⟩, hx => by
    simp only [Tl.at_, Option.some.injEq] at hx
    subst hx
    simp only [Nat.zero_mul, Nat.add_zero]
    obtain ⟨P, p, rfl⟩ := hp.read
    obtain ⟨I, q, rfl⟩ := hi.read
    exact ⟨h0, h1, h2, h3, h5, h6, h7, P, p, I, q, A, c, h4, h8, h9, hp, hi, ⟨A, c, rfl, hl, b', o', hA, hk⟩⟩
  | .cons k n s ps d ks r, b, o, i + 1, x, ⟨h0, h1, h2, h3, h4, h5, h6, h7, h8, h9, hr⟩, hx => by
    have h := TInAt.at_ hr (show r.at_ i = some x from hx)
    rw [show o + (i + 1) * 9 = o + 9 + i * 9 by omega]
    exact h
/-- the cells of a slice's term -/
theorem TIn.at_ {A : Option Addr} {n c : Nat} {t : Tl} (h : TIn w (.slice A n c) t) {i : Nat} {x : Tm} (hx : t.at_ i = some x) :
    ∃ b o P p I q K r, A = some ⟨b, o, none⟩ ∧ b < w.heap.size ∧ w.cell? ⟨b, o + i * 9, none⟩ = some (.int .i64 x.k) ∧ w.cell? ⟨b, o + i * 9 + 1, none⟩ = some (.int .i64 x.n) ∧ w.cell? ⟨b, o + i * 9 + 2, none⟩ = some (.string ⟨x.s.toArray⟩)
      ∧ w.cell? ⟨b, o + i * 9 + 3, none⟩ = some (.slice P x.ps.length p)
      ∧ w.cell? ⟨b, o + i * 9 + 4, none⟩ = some (.int .i64 x.d.k) ∧ w.cell? ⟨b, o + i * 9 + 5, none⟩ = some (.int .i64 x.d.n) ∧ w.cell? ⟨b, o + i * 9 + 6, none⟩ = some (.string ⟨x.d.s.toArray⟩)
      ∧ w.cell? ⟨b, o + i * 9 + 7, none⟩ = some (.slice I x.d.is.len q) ∧ w.cell? ⟨b, o + i * 9 + 8, none⟩ = some (.slice K x.ks.len r)
      ∧ TmIn w x (.slice P x.ps.length p) (.slice I x.d.is.len q) (.slice K x.ks.len r) := by
  obtain ⟨A', c', e, -, b, o, h1, h2⟩ := h
  injection e with e1 e2 e3
  subst e1 e2 e3
  obtain ⟨g0, g1, g2, g3, g4, g5, g6, P, p, I, q, K, r, g7, g8, g9, hT⟩ := h2.at_ hx
  exact ⟨b, o, P, p, I, q, K, r, h1 (by have := Tl.at_lt hx; omega), g0, g1, g2, g3, g7, g4, g5, g6, g8, g9, hT⟩
end

/-- each number is one of 64 bits -/
def b64 (z : Int) : Prop := -9223372036854775808 ≤ z ∧ z ≤ 9223372036854775807
def TBd : Tl → Prop
  | .nil => True
  | .cons k n _ ps d ks r => b64 k ∧ b64 n ∧ (∀ p ∈ ps, b64 p) ∧ b64 d.k ∧ b64 d.n ∧ Bd d.is ∧ TBd ks ∧ TBd r
structure TmBd (t : Tm) : Prop where
  k : b64 t.k
  n : b64 t.n
  p : ∀ p ∈ t.ps, b64 p
  dk : b64 t.d.k
  dn : b64 t.d.n
  d : Bd t.d.is
  ks : TBd t.ks
theorem TBd.at_ : ∀ {t : Tl} {i : Nat} {x : Tm}, TBd t → t.at_ i = some x → TmBd x
  | .nil, _, _, _, hx => by simp [Tl.at_] at hx
  | .cons k n s ps d ks r, 0, x, ⟨h1, h2, h3, h4, h5, h6, h7, h8⟩, hx => by
    simp only [Tl.at_, Option.some.injEq] at hx
    subst hx
    exact ⟨h1, h2, h3, h4, h5, h6, h7⟩
  | .cons k n s ps d ks r, i + 1, x, ⟨h1, h2, h3, h4, h5, h6, h7, h8⟩, hx => TBd.at_ h8 (show r.at_ i = some x from hx)
theorem TBd.prs : ∀ {t : Tl}, TBd t → ∀ p ∈ TM.prs t, b64 p
  | .nil, _, p, hp => by simp [TM.prs] at hp
  | .cons k n s ps d ks r, ⟨h1, h2, h3, h4, h5, h6, h7, h8⟩, p, hp => by
    simp only [TM.prs, List.mem_append] at hp
    rcases hp with hp | hp | hp
    · exact h3 p hp
    · exact TBd.prs h7 p hp
    · exact TBd.prs h8 p hp
end Go.Proofs.YthfelkcomhflnaaDoor

/- Terms in memory that the call itself has made: rows of terms within rows, each in a block of its own; how they stay, and are put together. -/
namespace Go.Proofs.YthfelkcomhflnaaDoor
open Go.ChangeShapes Go.WideShapes Go.ChangeAt Go.RowKit Go.Deep
open TM (Tl Tm)

/-- the data can be read, and lie in blocks of D alone -/
def InD (w : World) (D : Nat → Prop) (v : Value) (d : RM.Dl) : Prop := ∀ w', Agr D w w' → In w' v d
/-- the nine cells of a term -/
def tcells (t : Tm) (vp vi vk : Value) : List Value := [.int .i64 t.k, .int .i64 t.n, .string ⟨t.s.toArray⟩, vp, .int .i64 t.d.k, .int .i64 t.d.n, .string ⟨t.d.s.toArray⟩, vi, vk]
section
variable {w w' : World} {v : Value} {D D' S S' S2 X : Nat → Prop}
theorem InD.in_ {d : RM.Dl} (h : InD w D v d) : In w v d := h w (Agr.refl _ _)
theorem InD.agr {d : RM.Dl} (h : InD w D v d) (k : Agr D w w') : InD w' D v d := fun w2 k2 => h w2 (k.trans k2)
theorem InD.mono {d : RM.Dl} (h : InD w D v d) (hd : ∀ g, g < w.heap.size → D g → D' g) : InD w D' v d := fun w2 k2 => h w2 (k2.mono hd)
theorem In.ind {d : RM.Dl} (h : In w v d) : InD w (fun g => g < w.heap.size) v d := fun _ k => h.agr k
theorem Dat.agr {d : RM.Dl} (h : Dat w S v d) (k : Agr S w w') : Dat w' S v d := by
  have row : ∀ {u : Value} {n : Nat} {cs : List Value}, w.ownsRow 0 42 4 u n cs → (∀ g, u.ownBlock = some g → S g) → w'.ownsRow 0 42 4 u n cs := by
    intro u n cs h hs
    have hlt := World.ownsRow.lt h
    obtain ⟨h1, h2⟩ := h
    refine ⟨h1, ?_⟩
    rcases h2 with h2 | ⟨g, cap, cur, hv, hg, hh, r⟩
    · exact .inl h2
    · have ho : u.ownBlock = some g := by rw [hv]; rfl
      exact .inr ⟨g, cap, cur, hv, hg, (k.block g (hlt g ho).2 (hs g ho)).trans hh, r⟩
  have at_ : ∀ (d : RM.Dl) (cs : List Value), DatAt w S d cs → DatAt w' S d cs := by
    intro d
    induction d with
    | nil => exact fun _ h => h
    | cons k n s is r ih1 ih2 =>
      rintro cs ⟨v, c1, c2, h1, h2, h3, h4, h5⟩
      exact ⟨v, c1, c2, h1, row h2 h3, h3, ih1 _ h4, ih2 _ h5⟩
  obtain ⟨cs, h1, h2, h3⟩ := h
  exact ⟨cs, row h1 h2, h2, at_ _ _ h3⟩
theorem Dat.ind {d : RM.Dl} (h : Dat w S v d) : InD w S v d := fun _ k => (h.agr k).in_
theorem InD.nil (w : World) (D : Nat → Prop) : InD w D (.slice none 0 0) .nil := fun _ _ => In.nil _

/-- its cells are all of one cell -/
theorem Own.one' {l : List Int} {B : Nat} (h : Own w B v l) : v.oneCell' = true := by
  rcases h.2 with ⟨rfl, _⟩ | ⟨g, cap, cur, rfl, _⟩ <;> rfl
theorem In.one' {d : RM.Dl} (h : In w v d) : v.oneCell' = true := by
  obtain ⟨A, c, rfl⟩ := h.read; rfl
theorem row_one' {e : TypeId} {B sz n : Nat} {cs : List Value} (h : w.ownsRow B e sz v n cs) : v.oneCell' = true := by
  rcases h.2 with ⟨rfl, _⟩ | ⟨g, cap, cur, rfl, _⟩ <;> rfl
/-- one's own ints can be read -/
theorem Own.pin {l : List Int} {B : Nat} (h : Own w B v l) : PIn w v l := by
  have hlen : l.length ≤ 9223372036854775807 := by
    rcases h.2 with ⟨_, hn⟩ | ⟨g, cap, cur, _, _, _, hc, hm, _⟩
    · omega
    · unfold maxLen at hm; omega
  obtain ⟨A, c, rfl, hr⟩ := h.read
  by_cases h0 : 0 < l.length
  · obtain ⟨g, hg, _, hlt, _⟩ := hr 0 h0
    refine ⟨A, c, rfl, hlen, g, 0, fun _ => ⟨hg, hlt⟩, fun j x hx => ?_⟩
    have hj := (List.getElem?_eq_some_iff.1 hx).1
    obtain ⟨g', hg', _, _, h'⟩ := hr j hj
    rw [hg] at hg'
    cases hg'
    rw [Nat.zero_add, h', List.getD_eq_getElem?_getD, hx]; rfl
  · have : l = [] := List.eq_nil_of_length_eq_zero (by omega)
    subst this
    exact ⟨A, c, rfl, hlen, 0, 0, fun h => absurd h (by simp), fun j x hx => by simp at hx⟩
end
end Go.Proofs.YthfelkcomhflnaaDoor
