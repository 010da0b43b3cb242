/- Instructions in memory: those that can be read, wherever they lie; rows of one's own. -/
import Derived.Test.YthfelkcomhflnaaDoorQ11
import Derived.Test.YthfelkcomhflnaaDoorQ10
namespace Go.Proofs.YthfelkcomhflnaaDoor
open Go.ChangeShapes Go.WideShapes Go.ChangeAt Go.RowKit Go.Deep
open CD (Ins)

/-- an instruction's cells, by the slice of its datum's Items -/
def icells (x : Ins) (v : Value) : List Value := [.int .i64 x.op, .int .i64 x.a, .int .i64 x.b, .string ⟨x.s.toArray⟩, .int .i64 x.d.k, .int .i64 x.d.n, .string ⟨x.d.s.toArray⟩, v]
/-- an instruction's value -/
def insv (x : Ins) (v : Value) : Value := .agg #[.int .i64 x.op, .int .i64 x.a, .int .i64 x.b, .string ⟨x.s.toArray⟩, .int .i64 x.d.k, .int .i64 x.d.n, .string ⟨x.d.s.toArray⟩, v]
/-- v is a slice of these instructions -/
def IIn (w : World) (v : Value) (l : List Ins) : Prop :=
  ∃ A c, v = .slice A l.length c ∧ l.length ≤ 9223372036854775807 ∧ ∃ b o, (0 < l.length → A = some ⟨b, o, none⟩ ∧ b < w.heap.size) ∧
    ∀ (j : Nat) (x : Ins), l[j]? = some x → ∃ u, In w u x.d.is ∧ ∀ (i : Nat) (y : Value), (icells x u)[i]? = some y → w.cell? ⟨b, o + j * 8 + i, none⟩ = some y
/-- the numbers are of 64 bits -/
def IBd (x : Ins) : Prop := (-9223372036854775808 ≤ x.op ∧ x.op ≤ 9223372036854775807) ∧ (-9223372036854775808 ≤ x.a ∧ x.a ≤ 9223372036854775807) ∧ (-9223372036854775808 ≤ x.b ∧ x.b ≤ 9223372036854775807)
  ∧ (-9223372036854775808 ≤ x.d.k ∧ x.d.k ≤ 9223372036854775807) ∧ (-9223372036854775808 ≤ x.d.n ∧ x.d.n ≤ 9223372036854775807) ∧ Bd x.d.is
section
variable {w w' w2 : World} {v : Value}
theorem IIn.agr {l : List Ins} (h : IIn w v l) (k : Agr (fun g => g < w.heap.size) w w') : IIn w' v l := by
  obtain ⟨A, c, e, hl, b, o, h1, h2⟩ := h
  refine ⟨A, c, e, hl, b, o, fun h => ⟨(h1 h).1, Nat.lt_of_lt_of_le (h1 h).2 k.size⟩, fun j x hx => ?_⟩
  have hj := (List.getElem?_eq_some_iff.1 hx).1
  obtain ⟨u, hu, H⟩ := h2 j x hx
  exact ⟨u, hu.agr k, fun i y hy => (k.all (p := ⟨b, o + j * 8 + i, none⟩) (h1 (by omega)).2).trans (H i y hy)⟩
theorem IIn.below {l : List Ins} (h : IIn w v l) (k : Below w.heap.size w w') : IIn w' v l := h.agr (Agr.of_below k)
theorem IIn.drew {l : List Ins} (h : IIn w v l) : IIn w.drew v l := h.below (below_of_drew (w := w) (w' := w.drew) (Below.refl _ _))
theorem IIn.len {l : List Ins} (h : IIn w v l) : l.length ≤ 9223372036854775807 := by
  obtain ⟨A, c, e, hl, _⟩ := h; exact hl
theorem IIn.read {l : List Ins} (h : IIn w v l) : ∃ A c, v = .slice A l.length c := by
  obtain ⟨A, c, e, _⟩ := h; exact ⟨A, c, e⟩
theorem IIn.nil (w : World) : IIn w (.slice none 0 0) [] := ⟨none, 0, rfl, by simp, 0, 0, fun h => absurd h (by simp), fun j x h => by simp at h⟩
/-- the cells of an instruction -/
theorem IIn.at_ {A : Option Addr} {n c : Nat} {l : List Ins} (h : IIn w (.slice A n c) l) {j : Nat} {x : Ins} (hx : l[j]? = some x) :
    ∃ b o I q, A = some ⟨b, o, none⟩ ∧ b < w.heap.size ∧ In w (.slice I x.d.is.len q) x.d.is
      ∧ w.cell? ⟨b, o + j * 8, none⟩ = some (.int .i64 x.op) ∧ w.cell? ⟨b, o + j * 8 + 1, none⟩ = some (.int .i64 x.a) ∧ w.cell? ⟨b, o + j * 8 + 2, none⟩ = some (.int .i64 x.b) ∧ w.cell? ⟨b, o + j * 8 + 3, none⟩ = some (.string ⟨x.s.toArray⟩)
      ∧ w.cell? ⟨b, o + j * 8 + 4, none⟩ = some (.int .i64 x.d.k) ∧ w.cell? ⟨b, o + j * 8 + 5, none⟩ = some (.int .i64 x.d.n) ∧ w.cell? ⟨b, o + j * 8 + 6, none⟩ = some (.string ⟨x.d.s.toArray⟩) ∧ w.cell? ⟨b, o + j * 8 + 7, none⟩ = some (.slice I x.d.is.len q) := by
  obtain ⟨A', c', e, -, b, o, h1, h2⟩ := h
  injection e with e1 e2 e3
  subst e1
  have hj := (List.getElem?_eq_some_iff.1 hx).1
  obtain ⟨hA, hb⟩ := h1 (by omega)
  obtain ⟨u, hu, H⟩ := h2 j x hx
  obtain ⟨I, q, rfl⟩ := hu.read
  exact ⟨b, o, I, q, hA, hb, hu, H 0 _ rfl, H 1 _ rfl, H 2 _ rfl, H 3 _ rfl, H 4 _ rfl, H 5 _ rfl, H 6 _ rfl, H 7 _ rfl⟩
end
/-- the cells of a row of instructions, their data in blocks of S -/
def IAt (w : World) (S : Nat → Prop) : List Ins → List Value → Prop
  | [], cs => cs = []
  | x :: r, cs => ∃ v c2, cs = icells x v ++ c2 ∧ Dat w S v x.d.is ∧ IAt w S r c2
theorem IAt.app {w : World} {S : Nat → Prop} : ∀ {l m : List Ins} {c1 c2 : List Value}, IAt w S l c1 → IAt w S m c2 → IAt w S (l ++ m) (c1 ++ c2)
  | [], m, c1, c2, h, k => by
    have h : c1 = [] := h
    subst h; exact k
  | x :: r, m, c1, c2, ⟨v, c3, e, hd, h⟩, k => by
    subst e
    exact ⟨v, c3 ++ c2, by rw [List.append_assoc], hd, IAt.app h k⟩
theorem IAt.one {w : World} {S : Nat → Prop} {x : Ins} {v : Value} (h : Dat w S v x.d.is) : IAt w S [x] (icells x v) := ⟨v, [], by simp, h, rfl⟩
theorem IAt.turns {w w' : World} {S X : Nat → Prop} (k : Turns X w w') (hx : ∀ g, g < w.heap.size → S g → ¬ X g) : ∀ {l : List Ins} {cs : List Value}, IAt w S l cs → IAt w' S l cs
  | [], _, h => h
  | _ :: _, _, ⟨v, c2, e, hd, h⟩ => ⟨v, c2, e, hd.turns k hx, IAt.turns k hx h⟩
theorem IAt.at_ {w : World} {S : Nat → Prop} : ∀ {l : List Ins} {cs : List Value} {j : Nat} {x : Ins}, IAt w S l cs → l[j]? = some x → ∃ u, Dat w S u x.d.is ∧ ∀ (i : Nat) (y : Value), (icells x u)[i]? = some y → cs[j * 8 + i]? = some y
  | [], _, _, _, _, hx => by simp at hx
  | z :: r, cs, 0, x, ⟨v, c2, e, hd, h⟩, hx => by
    simp at hx
    subst hx e
    refine ⟨v, hd, fun i y hy => ?_⟩
    rw [Nat.zero_mul, Nat.zero_add, List.getElem?_append_left (List.getElem?_eq_some_iff.1 hy).1]
    exact hy
  | z :: r, cs, j + 1, x, ⟨v, c2, e, hd, h⟩, hx => by
    obtain ⟨u, h1, H⟩ := h.at_ (show r[j]? = some x by simpa using hx)
    subst e
    refine ⟨u, h1, fun i y hy => ?_⟩
    have := H i y hy
    rw [List.getElem?_append_right (by simp [icells]; omega)]
    rw [← this]
    congr 1
    simp [icells]; omega
/-- a row of instructions of one's own: v in a block from B on, their data in blocks of S -/
def IOwn (w : World) (B : Nat) (S : Nat → Prop) (v : Value) (l : List Ins) : Prop := ∃ cs, w.ownsRow B 44 8 v l.length cs ∧ IAt w S l cs
theorem IOwn.readable {w : World} {B : Nat} {S : Nat → Prop} {v : Value} {l : List Ins} (h : IOwn w B S v l) (hl : l.length ≤ 1000000) (_ : B ≤ w.heap.size) : IIn w v l := by
  obtain ⟨cs, h1, h2⟩ := h
  have hcl : cs.length = l.length * 8 := h1.1
  obtain ⟨A, c, e, hr⟩ := own_read h1
  subst e
  refine ⟨A, c, rfl, by omega, ?_⟩
  by_cases h0 : l.length = 0
  · have : l = [] := List.eq_nil_of_length_eq_zero h0
    subst this
    exact ⟨0, 0, fun h => absurd h (by simp), fun j x hx => by simp at hx⟩
  · obtain ⟨g, hg, h4, h5, -⟩ := hr 0 (by omega)
    refine ⟨g, 0, fun _ => ⟨hg, h5⟩, fun j x hx => ?_⟩
    obtain ⟨u, hd, H⟩ := h2.at_ hx
    refine ⟨u, hd.in_, fun i y hy => ?_⟩
    have hy2 := H i y hy
    have hj : j * 8 + i < cs.length := (List.getElem?_eq_some_iff.1 hy2).1
    obtain ⟨g', hg', -, -, h6⟩ := hr (j * 8 + i) (by omega)
    rw [hg] at hg'
    injection hg' with hg'
    injection hg' with hg'
    subst hg'
    rw [Nat.zero_add, h6]
    exact hy2
end Go.Proofs.YthfelkcomhflnaaDoor
