/- Terms in memory: those that can be read, wherever they lie (also shared). -/
import Derived.Test.YtpiekdcbjkgipaaQ8
import Derived.Test.YtpiekdcbjkgipaaQ7
import Derived.Test.YtpiekdcbjkgipaaMem
import Derived.Test.YtpiekdcbjkgipaaRows
import Derived.Maps.AppendAt
import Derived.Deep.AppendLies
import Derived.Laws.OwnMore
import Derived.WalkKit
import Derived.RegionTactic
import Derived.OwnWalk
namespace Go.Proofs.Ytpiekdcbjkgipaa
open Go.ChangeShapes Go.WideShapes Go.ChangeAt Go.RowKit Go.Deep
open TM (Tl Tm)

/-- v is a slice of these ints -/
def PIn (w : World) (v : Value) (l : List Int) : Prop :=
  ∃ A c, v = .slice A l.length c ∧ l.length ≤ 9223372036854775807 ∧ ∃ b o, (0 < l.length → A = some ⟨b, o, none⟩ ∧ b < w.heap.size) ∧ ∀ (j : Nat) (x : Int), l[j]? = some x → w.cell? ⟨b, o + j, none⟩ = some (.int .i64 x)
/-- these terms lie in block b from o on -/
def TInAt (w : World) : Tl → Nat → Nat → Prop
  | .nil, _, _ => True
  | .cons k n s ps d ks r, b, o => b < w.heap.size ∧ w.cell? ⟨b, o, none⟩ = some (.int .i64 k) ∧ w.cell? ⟨b, o + 1, none⟩ = some (.int .i64 n) ∧ w.cell? ⟨b, o + 2, none⟩ = some (.string ⟨s.toArray⟩)
      ∧ (∃ v, w.cell? ⟨b, o + 3, none⟩ = some v ∧ PIn w v ps)
      ∧ w.cell? ⟨b, o + 4, none⟩ = some (.int .i64 d.k) ∧ w.cell? ⟨b, o + 5, none⟩ = some (.int .i64 d.n) ∧ w.cell? ⟨b, o + 6, none⟩ = some (.string ⟨d.s.toArray⟩)
      ∧ (∃ v, w.cell? ⟨b, o + 7, none⟩ = some v ∧ In w v d.is)
      ∧ (∃ A c, w.cell? ⟨b, o + 8, none⟩ = some (.slice A ks.len c) ∧ ks.len ≤ 9223372036854775807 ∧ ∃ b' o', (0 < ks.len → A = some ⟨b', o', none⟩) ∧ TInAt w ks b' o') ∧ TInAt w r b (o + 9)
/-- v is a slice of these terms -/
def TIn (w : World) (v : Value) (t : Tl) : Prop := ∃ A c, v = .slice A t.len c ∧ t.len ≤ 9223372036854775807 ∧ ∃ b o, (0 < t.len → A = some ⟨b, o, none⟩) ∧ TInAt w t b o
/-- a term's value, by the slices of its Params, of its datum's Items, and of its Kids -/
def tmv (t : Tm) (vp vi vk : Value) : Value := .agg #[.int .i64 t.k, .int .i64 t.n, .string ⟨t.s.toArray⟩, vp, .int .i64 t.d.k, .int .i64 t.d.n, .string ⟨t.d.s.toArray⟩, vi, vk]
structure TmIn (w : World) (t : Tm) (vp vi vk : Value) : Prop where
  p : PIn w vp t.ps
  d : In w vi t.d.is
  k : TIn w vk t.ks
/-- w' agrees with w on the blocks of D -/
structure Agr (D : Nat → Prop) (w w' : World) : Prop where
  size : w.heap.size ≤ w'.heap.size
  block : ∀ g, g < w.heap.size → D g → w'.heap[g]? = w.heap[g]?

section
variable {w w' w2 : World} {v : Value} {D D' X : Nat → Prop}
theorem Agr.refl (D : Nat → Prop) (w : World) : Agr D w w := ⟨Nat.le_refl _, fun _ _ _ => rfl⟩
theorem Agr.trans (h : Agr D w w') (k : Agr D w' w2) : Agr D w w2 := ⟨Nat.le_trans h.size k.size, fun g hg hd => (k.block g (Nat.lt_of_lt_of_le hg h.size) hd).trans (h.block g hg hd)⟩
theorem Agr.mono (h : Agr D w w') (hd : ∀ g, g < w.heap.size → D' g → D g) : Agr D' w w' := ⟨h.size, fun g hg hh => h.block g hg (hd g hg hh)⟩
theorem Agr.of_turns (h : Turns X w w') (hx : ∀ g, g < w.heap.size → D g → ¬ X g) : Agr D w w' := ⟨h.size, fun g hg hd => h.block g hg (hx g hg hd)⟩
theorem Agr.of_below (h : Below w.heap.size w w') : Agr D w w' := ⟨h.size, fun g hg _ => h.block g hg⟩
theorem Agr.all (k : Agr (fun g => g < w.heap.size) w w') {p : Addr} (h : p.block < w.heap.size) : w'.cell? p = w.cell? p := by
  unfold World.cell?
  rw [k.block p.block h h]

theorem InAt.agr (k : Agr (fun g => g < w.heap.size) w w') : ∀ {d : RM.Dl} {b o : Nat}, InAt w d b o → InAt w' d b o
  | .nil, _, _, _ => trivial
  | .cons _ _ _ _ _, b, o, ⟨h0, h1, h2, h3, ⟨A, c, h4, hl, b', o', h5, h6⟩, h7⟩ =>
    ⟨Nat.lt_of_lt_of_le h0 k.size, (k.all (p := ⟨b, o, none⟩) h0).trans h1, (k.all (p := ⟨b, o + 1, none⟩) h0).trans h2, (k.all (p := ⟨b, o + 2, none⟩) h0).trans h3,
      ⟨A, c, (k.all (p := ⟨b, o + 3, none⟩) h0).trans h4, hl, b', o', h5, InAt.agr k h6⟩, InAt.agr k h7⟩
theorem In.agr {d : RM.Dl} (h : In w v d) (k : Agr (fun g => g < w.heap.size) w w') : In w' v d := by
  obtain ⟨A, c, e, hl, b, o, h1, h2⟩ := h
  exact ⟨A, c, e, hl, b, o, h1, h2.agr k⟩
theorem PIn.agr {l : List Int} (h : PIn w v l) (k : Agr (fun g => g < w.heap.size) w w') : PIn w' v l := by
  obtain ⟨A, c, e, hl, b, o, h1, h2⟩ := h
  refine ⟨A, c, e, hl, b, o, fun h => ⟨(h1 h).1, Nat.lt_of_lt_of_le (h1 h).2 k.size⟩, fun j x hx => ?_⟩
  have hj := (List.getElem?_eq_some_iff.1 hx).1
  exact (k.all (p := ⟨b, o + j, none⟩) (h1 (by omega)).2).trans (h2 j x hx)
theorem TInAt.agr (k : Agr (fun g => g < w.heap.size) w w') : ∀ {t : Tl} {b o : Nat}, TInAt w t b o → TInAt w' t b o
  | .nil, _, _, _ => trivial
  | .cons _ _ _ _ _ _ _, b, o, ⟨h0, h1, h2, h3, ⟨v, h4, hp⟩, h5, h6, h7, ⟨u, h8, hi⟩, ⟨A, c, h9, hl, b', o', hA, hk⟩, hr⟩ =>
    ⟨Nat.lt_of_lt_of_le h0 k.size, (k.all (p := ⟨b, o, none⟩) h0).trans h1, (k.all (p := ⟨b, o + 1, none⟩) h0).trans h2, (k.all (p := ⟨b, o + 2, none⟩) h0).trans h3,
      ⟨v, (k.all (p := ⟨b, o + 3, none⟩) h0).trans h4, hp.agr k⟩, (k.all (p := ⟨b, o + 4, none⟩) h0).trans h5, (k.all (p := ⟨b, o + 5, none⟩) h0).trans h6, (k.all (p := ⟨b, o + 6, none⟩) h0).trans h7,
      ⟨u, (k.all (p := ⟨b, o + 7, none⟩) h0).trans h8, hi.agr k⟩,
      ⟨A, c, (k.all (p := ⟨b, o + 8, none⟩) h0).trans h9, hl, b', o', hA, TInAt.agr k hk⟩, TInAt.agr k hr⟩
theorem TIn.agr {t : Tl} (h : TIn w v t) (k : Agr (fun g => g < w.heap.size) w w') : TIn w' v t := by
  obtain ⟨A, c, e, hl, b, o, h1, h2⟩ := h
  exact ⟨A, c, e, hl, b, o, h1, h2.agr k⟩
theorem PIn.below {l : List Int} (h : PIn w v l) (k : Below w.heap.size w w') : PIn w' v l := h.agr (Agr.of_below k)
theorem TIn.below {t : Tl} (h : TIn w v t) (k : Below w.heap.size w w') : TIn w' v t := h.agr (Agr.of_below k)
theorem TmIn.agr {t : Tm} {vp vi vk : Value} (h : TmIn w t vp vi vk) (k : Agr (fun g => g < w.heap.size) w w') : TmIn w' t vp vi vk := ⟨h.p.agr k, h.d.agr k, h.k.agr k⟩
theorem TmIn.below {t : Tm} {vp vi vk : Value} (h : TmIn w t vp vi vk) (k : Below w.heap.size w w') : TmIn w' t vp vi vk := h.agr (Agr.of_below k)
theorem PIn.drew {l : List Int} (h : PIn w v l) : PIn w.drew v l := h.below (below_of_drew (w := w) (w' := w.drew) (Below.refl _ _))
theorem TIn.drew {t : Tl} (h : TIn w v t) : TIn w.drew v t := h.below (below_of_drew (w := w) (w' := w.drew) (Below.refl _ _))
theorem TmIn.drew {t : Tm} {vp vi vk : Value} (h : TmIn w t vp vi vk) : TmIn w.drew t vp vi vk := ⟨h.p.drew, h.d.drew, h.k.drew⟩
theorem PIn.len {l : List Int} (h : PIn w v l) : l.length ≤ 9223372036854775807 := by
  obtain ⟨A, c, e, hl, _⟩ := h; exact hl
theorem TIn.len {t : Tl} (h : TIn w v t) : t.len ≤ 9223372036854775807 := by
  obtain ⟨A, c, e, hl, _⟩ := h; exact hl
theorem PIn.read {l : List Int} (h : PIn w v l) : ∃ A c, v = .slice A l.length c := by
  obtain ⟨A, c, e, _⟩ := h; exact ⟨A, c, e⟩
theorem TIn.read {t : Tl} (h : TIn w v t) : ∃ A c, v = .slice A t.len c := by
  obtain ⟨A, c, e, _⟩ := h; exact ⟨A, c, e⟩
theorem PIn.nil (w : World) : PIn w (.slice none 0 0) [] := ⟨none, 0, rfl, by simp, 0, 0, fun h => absurd h (by simp), fun j x h => by simp at h⟩
theorem TIn.nil (w : World) : TIn w (.slice none 0 0) .nil := ⟨none, 0, rfl, by simp [Tl.len], 0, 0, fun h => absurd h (by simp [Tl.len]), trivial⟩
theorem In.nil (w : World) : In w (.slice none 0 0) .nil := ⟨none, 0, rfl, by simp [RM.Dl.len], 0, 0, fun h => absurd h (by simp [RM.Dl.len]), trivial⟩
theorem PIn.cell {A : Option Addr} {n c : Nat} {l : List Int} (h : PIn w (.slice A n c) l) {j : Nat} {x : Int} (hx : l[j]? = some x) : ∃ b o, A = some ⟨b, o, none⟩ ∧ b < w.heap.size ∧ w.cell? ⟨b, o + j, none⟩ = some (.int .i64 x) := by
  obtain ⟨A', c', e, hl, b, o, h1, h2⟩ := h
  injection e with e1 e2 e3
  subst e1
  have hj := (List.getElem?_eq_some_iff.1 hx).1
  obtain ⟨hA, hb⟩ := h1 (by omega)
  exact ⟨b, o, hA, hb, h2 j x hx⟩
theorem TInAt.at_ : ∀ {t : Tl} {b o i : Nat} {x : Tm}, TInAt w t b o → t.at_ i = some x →
    b < w.heap.size ∧ w.cell? ⟨b, o + i * 9, none⟩ = some (.int .i64 x.k) ∧ w.cell? ⟨b, o + i * 9 + 1, none⟩ = some (.int .i64 x.n) ∧ w.cell? ⟨b, o + i * 9 + 2, none⟩ = some (.string ⟨x.s.toArray⟩)
      ∧ w.cell? ⟨b, o + i * 9 + 4, none⟩ = some (.int .i64 x.d.k) ∧ w.cell? ⟨b, o + i * 9 + 5, none⟩ = some (.int .i64 x.d.n) ∧ w.cell? ⟨b, o + i * 9 + 6, none⟩ = some (.string ⟨x.d.s.toArray⟩)
      ∧ ∃ P p I q K r, w.cell? ⟨b, o + i * 9 + 3, none⟩ = some (.slice P x.ps.length p) ∧ w.cell? ⟨b, o + i * 9 + 7, none⟩ = some (.slice I x.d.is.len q) ∧ w.cell? ⟨b, o + i * 9 + 8, none⟩ = some (.slice K x.ks.len r)
        ∧ TmIn w x (.slice P x.ps.length p) (.slice I x.d.is.len q) (.slice K x.ks.len r)
  | .nil, _, _, _, _, _, hx => by simp [Tl.at_] at hx
  | .cons k n s ps d ks r, b, o, 0, x, ⟨h0, h1, h2, h3, ⟨v, h4, hp⟩, h5, h6, h7, ⟨u, h8, hi⟩, ⟨A, c, h9, hl, b', o', hA, hk⟩, hr⟩, hx => by
    simp only [Tl.at_, Option.some.injEq] at hx
    subst hx
    simp only [Nat.zero_mul, Nat.add_zero]
    obtain ⟨P, p, rfl⟩ := hp.read
    obtain ⟨I, q, rfl⟩ := hi.read
    exact ⟨h0, h1, h2, h3, h5, h6, h7, P, p, I, q, A, c, h4, h8, h9, hp, hi, ⟨A, c, rfl, hl, b', o', hA, hk⟩⟩
  | .cons k n s ps d ks r, b, o, i + 1, x, ⟨h0, h1, h2, h3, h4, h5, h6, h7, h8, h9, hr⟩, hx => by
    have h := TInAt.at_ hr (show r.at_ i = some x from hx)
    rw [show o + (i + 1) * 9 = o + 9 + i * 9 by omega]
    exact h
/-- the cells of a slice's term -/
theorem TIn.at_ {A : Option Addr} {n c : Nat} {t : Tl} (h : TIn w (.slice A n c) t) {i : Nat} {x : Tm} (hx : t.at_ i = some x) :
    ∃ b o P p I q K r, A = some ⟨b, o, none⟩ ∧ b < w.heap.size ∧ w.cell? ⟨b, o + i * 9, none⟩ = some (.int .i64 x.k) ∧ w.cell? ⟨b, o + i * 9 + 1, none⟩ = some (.int .i64 x.n) ∧ w.cell? ⟨b, o + i * 9 + 2, none⟩ = some (.string ⟨x.s.toArray⟩)
      ∧ w.cell? ⟨b, o + i * 9 + 3, none⟩ = some (.slice P x.ps.length p)
      ∧ w.cell? ⟨b, o + i * 9 + 4, none⟩ = some (.int .i64 x.d.k) ∧ w.cell? ⟨b, o + i * 9 + 5, none⟩ = some (.int .i64 x.d.n) ∧ w.cell? ⟨b, o + i * 9 + 6, none⟩ = some (.string ⟨x.d.s.toArray⟩)
      ∧ w.cell? ⟨b, o + i * 9 + 7, none⟩ = some (.slice I x.d.is.len q) ∧ w.cell? ⟨b, o + i * 9 + 8, none⟩ = some (.slice K x.ks.len r)
      ∧ TmIn w x (.slice P x.ps.length p) (.slice I x.d.is.len q) (.slice K x.ks.len r) := by
  obtain ⟨A', c', e, -, b, o, h1, h2⟩ := h
  injection e with e1 e2 e3
  subst e1 e2 e3
  obtain ⟨g0, g1, g2, g3, g4, g5, g6, P, p, I, q, K, r, g7, g8, g9, hT⟩ := h2.at_ hx
  exact ⟨b, o, P, p, I, q, K, r, h1 (by have := Tl.at_lt hx; omega), g0, g1, g2, g3, g7, g4, g5, g6, g8, g9, hT⟩
end

/-- each number is one of 64 bits -/
def b64 (z : Int) : Prop := -9223372036854775808 ≤ z ∧ z ≤ 9223372036854775807
def TBd : Tl → Prop
  | .nil => True
  | .cons k n _ ps d ks r => b64 k ∧ b64 n ∧ (∀ p ∈ ps, b64 p) ∧ b64 d.k ∧ b64 d.n ∧ Bd d.is ∧ TBd ks ∧ TBd r
structure TmBd (t : Tm) : Prop where
  k : b64 t.k
  n : b64 t.n
  p : ∀ p ∈ t.ps, b64 p
  dk : b64 t.d.k
  dn : b64 t.d.n
  d : Bd t.d.is
  ks : TBd t.ks
theorem TBd.at_ : ∀ {t : Tl} {i : Nat} {x : Tm}, TBd t → t.at_ i = some x → TmBd x
  | .nil, _, _, _, hx => by simp [Tl.at_] at hx
  | .cons k n s ps d ks r, 0, x, ⟨h1, h2, h3, h4, h5, h6, h7, h8⟩, hx => by
    simp only [Tl.at_, Option.some.injEq] at hx
    subst hx
    exact ⟨h1, h2, h3, h4, h5, h6, h7⟩
  | .cons k n s ps d ks r, i + 1, x, ⟨h1, h2, h3, h4, h5, h6, h7, h8⟩, hx => TBd.at_ h8 (show r.at_ i = some x from hx)
theorem TBd.prs : ∀ {t : Tl}, TBd t → ∀ p ∈ TM.prs t, b64 p
  | .nil, _, p, hp => by simp [TM.prs] at hp
  | .cons k n s ps d ks r, ⟨h1, h2, h3, h4, h5, h6, h7, h8⟩, p, hp => by
    simp only [TM.prs, List.mem_append] at hp
    rcases hp with hp | hp | hp
    · exact h3 p hp
    · exact TBd.prs h7 p hp
    · exact TBd.prs h8 p hp
end Go.Proofs.Ytpiekdcbjkgipaa

/- Slices of ints that the call itself has made: what they hold, and append of one onto another, either of them nil or not. -/
namespace Go.Proofs.Ytpiekdcbjkgipaa
open Go.RowKit

theorem Try.infoInt : (Try.prog.info? 3).map (fun i => (i.zero, i.size, i.bytes)) = some (some (.int .i64 0), 1, 8) := by kernel_rfl

/-- v is a slice of just the ints l, nil or in a block of its own from B on -/
def Own (w : World) (B : Nat) (v : Value) (l : List Int) : Prop := w.ownsRow B 3 1 v l.length (l.map (.int .i64))

section
variable {w w' : World} {B g : Nat} {v x : Value} {l lx : List Int} {X : Nat → Prop}
theorem Own.none_ (w : World) (B : Nat) : Own w B (.slice none 0 0) [] := by
  simpa [Own] using World.ownsRow_nil w B 3 1
theorem Own.lt (h : Own w B v l) : ∀ g, v.ownBlock = some g → B ≤ g ∧ g < w.heap.size := World.ownsRow.lt h
theorem Own.turns (h : Own w B v l) (k : Turns X w w') (hx : ∀ g, v.ownBlock = some g → ¬ X g) : Own w' B v l := by
  have hlt := h.lt
  obtain ⟨h1, h2⟩ := h
  refine ⟨h1, ?_⟩
  rcases h2 with h2 | ⟨g, cap, cur, hv, hg, hh, r⟩
  · exact .inl h2
  · have ho : v.ownBlock = some g := by rw [hv]; rfl
    exact .inr ⟨g, cap, cur, hv, hg, (k.block g (hlt g ho).2 (hx g ho)).trans hh, r⟩
theorem Own.below (h : Own w B v l) (k : Below w.heap.size w w') : Own w' B v l := h.turns (Turns.of_below k (fun _ => False)) (fun _ _ h => h)
theorem Own.drewN (h : Own w B v l) (n : Nat) : Own (w.drewN n) B v l := h
theorem Own.base {B' : Nat} (h : Own w B v l) (hB : B' ≤ B) : Own w B' v l := by
  obtain ⟨h1, h2⟩ := h
  refine ⟨h1, ?_⟩
  rcases h2 with h2 | ⟨g, cap, cur, hv, hg, r⟩
  · exact .inl h2
  · exact .inr ⟨g, cap, cur, hv, Nat.le_trans hB hg, r⟩
/-- a block of another type is none of its -/
theorem Own.apart {t : TypeId} {cs : List Value} (h : Own w B v l) (k : Lies w g t cs) (ht : 3 ≠ t) : ∀ j, v.ownBlock = some j → j ≠ g := by
  intro j hj e
  subst e
  rcases h.2 with ⟨rfl, _⟩ | ⟨g', cap, cur, rfl, _, hh, _⟩
  · simp [Value.ownBlock] at hj
  · have : g' = j := by simpa [Value.ownBlock] using hj
    subst this
    unfold Lies at k
    have hk := hh.symm.trans k
    simp at hk
    exact ht hk.2
theorem Own.one (w : World) (a : Int) (hB : B ≤ w.heap.size) : Own (w.alloc (.cells #[.int .i64 a] 3)) B (.slice (some ⟨w.heap.size, 0, none⟩) 1 1) [a] := by
  have := World.ownsRow_lit (base := B) (e := 3) (size := 1) w #[.int .i64 a] 1 hB (by decide) rfl
  simpa [Own] using this
theorem Own.zero (w : World) (hB : B ≤ w.heap.size) : Own (w.alloc (.cells #[] 3)) B (.slice (some ⟨w.heap.size, 0, none⟩) 0 0) [] := by
  have := World.ownsRow_lit (base := B) (e := 3) (size := 1) w #[] 0 hB (by decide) rfl
  simpa [Own] using this
/-- what a reader asks: its length, and each element at its cell -/
theorem Own.read (h : Own w B v l) : ∃ A c, v = .slice A l.length c ∧ ∀ j, j < l.length → ∃ g, A = some ⟨g, 0, none⟩ ∧ B ≤ g ∧ g < w.heap.size ∧ w.cell? ⟨g, j, none⟩ = some (.int .i64 (l.getD j 0)) := by
  rcases h.2 with ⟨rfl, hn⟩ | ⟨g, cap, cur, hv, hb, hh, hc, hm, hs, ht⟩
  · exact ⟨none, 0, by rw [hn], fun j hj => by omega⟩
  · refine ⟨some ⟨g, 0, none⟩, cap, hv, fun j hj => ⟨g, rfl, hb, ?_, ?_⟩⟩
    · by_cases hg : g < w.heap.size
      · exact hg
      · rw [Array.getElem?_eq_none (by omega)] at hh
        exact absurd hh (by simp)
    · subst hv
      have := World.ownsRow.cellAt h j (by omega)
      rw [this, List.getElem?_map, List.getElem?_eq_getElem hj]
      simp [hj]

theorem Own.cell {A : Option Addr} {n c : Nat} (h : Own w B (.slice A n c) l) {j : Nat} (hj : j < l.length) : ∃ g, A = some ⟨g, 0, none⟩ ∧ B ≤ g ∧ g < w.heap.size ∧ w.cell? ⟨g, j, none⟩ = some (.int .i64 (l.getD j 0)) := by
  obtain ⟨A', c', e, hr⟩ := h.read
  injection e with e1 e2 e3
  subst e1
  exact hr j hj

theorem run_append_ints (t ty : TypeId) (ht : Try.prog.underlying t = some (.slice 3)) {B' : Nat} (h : Own w B v l) (k : Own w B' x lx) (hlen : l.length + lx.length ≤ 1000000) (hB : B ≤ w.heap.size) :
    ∃ v' w', (Builtin.append_ #[t, t] ty #[v, x]).run Try.prog w = .ok v' w' ∧ Own w' B v' (l ++ lx) ∧ w.grownBy w' v.ownBlock ∧ (v'.ownBlock = v.ownBlock ∨ v'.ownBlock = some w.heap.size) := by
  obtain ⟨i0, hi, hz0, hz1, hz2⟩ := info_parts Try.infoInt
  rcases k.2 with ⟨rfl, hn⟩ | ⟨g, cap, cur, rfl, hb, hh, hc, hm, hs, hcur⟩
  · have : lx = [] := List.eq_nil_of_length_eq_zero hn
    subst this
    exact ⟨v, w, run_append_owned_none w B t ty 3 i0 1 ht hi v _ _ h, by rw [List.append_nil]; exact h, World.grownBy.refl w _, .inl rfl⟩
  · have hcells : ∀ j u, (lx.map (Value.int .i64))[j]? = some u → w.cell? ((⟨g, 0, none⟩ : Addr).add j) = some u := by
      intro j u hu
      have hadd : (⟨g, 0, none⟩ : Addr).add j = ⟨g, j, none⟩ := by unfold Addr.add; split <;> simp_all
      rw [hadd, World.ownsRow.cellAt k j (by have := (List.getElem?_eq_some_iff.1 hu).1; simpa using this), hu]
    obtain ⟨v', w', hr, h2, h3, _, h5⟩ := run_append_own_at (P := Try.prog) (ty := ty) w B t 3 i0 _ 1 8 ht hi hz0 hz1 hz2 rfl (by decide) v _ _ h ⟨g, 0, none⟩ lx.length cap (lx.map (.int .i64)) (by simp) hcells
      (fun u hu => by obtain ⟨_, _, rfl⟩ := List.mem_map.1 hu; rfl) (by unfold maxLen; omega) (by omega) hB
    refine ⟨v', w', hr, ?_, h3, h5⟩
    unfold Own
    rw [List.length_append, List.map_append]
    exact h2

theorem wp_append_ints {o : Oper} {a : Act} {K : Act → World → Prop} {Q : Exit → Act → World → Prop} (s u : Operand) (t : TypeId)
    (ho : o.op = .call { callee := .builtin .append, args := #[s, u], argTypes := #[t, t] }) (ht : Try.prog.underlying t = some (.slice 3)) {B' : Nat}
    (hs : a.eval s = v) (hu : a.eval u = x) (h : Own w B v l) (k : Own w B' x lx) (hlen : l.length + lx.length ≤ 1000000) (hB : B ≤ w.heap.size)
    (hq : ∀ v' w', Own w' B v' (l ++ lx) → w.grownBy w' v.ownBlock → (v'.ownBlock = v.ownBlock ∨ v'.ownBlock = some w.heap.size) → K (a.put o.dst v') w') : o.wp Try.prog a w K Q := by
  obtain ⟨v', w', hr, h2, h3, h4⟩ := run_append_ints t o.type ht h k hlen hB
  unfold Oper.wp execOp
  simp only [ho, resolve, invoke, builtin, Sem.run_bind, Sem.run_pure, Result.andThen_ok, List.map_toArray, List.map_cons, List.map_nil, hs, hu, hr]
  exact hq v' w' h2 h3 h4
theorem wpList_append_ints {ops : Array Oper} {rest : List Oper} {o : Oper} {a : Act} {Q : Exit → Act → World → Prop} (hgd : o.guard = none) (s u : Operand) (t : TypeId)
    (ho : o.op = .call { callee := .builtin .append, args := #[s, u], argTypes := #[t, t] }) (ht : Try.prog.underlying t = some (.slice 3)) {B' : Nat}
    (hs : a.eval s = v) (hu : a.eval u = x) (h : Own w B v l) (k : Own w B' x lx) (hlen : l.length + lx.length ≤ 1000000) (hB : B ≤ w.heap.size)
    (hq : ∀ v' w', Own w' B v' (l ++ lx) → w.grownBy w' v.ownBlock → (v'.ownBlock = v.ownBlock ∨ v'.ownBlock = some w.heap.size) → wpList Try.prog ops Q rest (a.put o.dst v') w') : wpList Try.prog ops Q (o :: rest) a w :=
  wpList_plain hgd fun _ hK => wp_append_ints s u t ho ht hs hu h k hlen hB fun v' w' h2 h3 h4 => hK _ _ (hq v' w' h2 h3 h4)
theorem step_append_ints {ops : Array Oper} {o : Oper} {a : Act} {K : Act → World → Prop} {Q : Exit → Act → World → Prop} {E : Prop} (hgd : o.guard = none) (s u : Operand) (t : TypeId)
    (ho : o.op = .call { callee := .builtin .append, args := #[s, u], argTypes := #[t, t] }) (ht : Try.prog.underlying t = some (.slice 3)) {B' : Nat}
    (hs : a.eval s = v) (hu : a.eval u = x) (h : Own w B v l) (k : Own w B' x lx) (hlen : l.length + lx.length ≤ 1000000) (hB : B ≤ w.heap.size)
    (hq : ∀ v' w', Own w' B v' (l ++ lx) → w.grownBy w' v.ownBlock → (v'.ownBlock = v.ownBlock ∨ v'.ownBlock = some w.heap.size) → K (a.put o.dst v') w') :
    if Region.wanted o (yielded ops a.tmps) = true then Oper.wp Try.prog o a w K Q else E := by
  rw [if_pos (by simp [Region.wanted, hgd])]
  exact wp_append_ints s u t ho ht hs hu h k hlen hB hq
/-- what an append turns: its row alone -/
theorem Turns.appended (h : w.grownBy w' v.ownBlock) : Turns (fun g => v.ownBlock = some g) w w' := (Turns.refl _ w).grown h (fun _ hk _ => hk)
end
end Go.Proofs.Ytpiekdcbjkgipaa
