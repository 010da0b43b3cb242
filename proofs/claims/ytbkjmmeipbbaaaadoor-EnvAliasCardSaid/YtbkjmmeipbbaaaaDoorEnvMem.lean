/- A table of package env in memory. -/
import Derived.Test.YtbkjmmeipbbaaaaDoorEnvMap
import Derived.Test.YtbkjmmeipbbaaaaDoorOwnA
namespace Go.Proofs.YtbkjmmeipbbaaaaDoor
open Go.RowKit Go.Maps

theorem Tryd.infoPlace : (Tryd.prog.info? 73).map (fun i => (i.zero, i.size, i.bytes)) = some (some (.agg #[.int .i64 0, .string ⟨#[]⟩, .int .i64 0, .int .i64 0]), 4, 40) := by kernel_rfl
def pcs (p : EM.Pl) : List Value := [.int .i64 (p.up : Int), .string p.nm, .int .i64 p.k, .int .i64 p.n]
def OwnPl (w : World) (v : Value) (l : List EM.Pl) : Prop := w.ownsRow 0 73 4 v l.length (l.flatMap pcs)
theorem OwnPl.read {w : World} {v : Value} {l : List EM.Pl} (h : OwnPl w v l) : ∃ A c, v = .slice A l.length c := by
  obtain ⟨A, c, e, _⟩ := own_read h; exact ⟨A, c, e⟩
theorem pl_at : ∀ (l : List EM.Pl) (i j : Nat) (t : EM.Pl), l[i]? = some t → j < 4 → (l.flatMap pcs)[i * 4 + j]? = (pcs t)[j]?
  | [], i, j, t, h, _ => by simp at h
  | x :: l, 0, j, t, h, hj => by
    simp at h; subst h
    rw [List.flatMap_cons, List.getElem?_append_left (by simp [pcs]; omega)]; simp
  | x :: l, i + 1, j, t, h, hj => by
    have hl : (pcs x).length = 4 := rfl
    rw [List.flatMap_cons, List.getElem?_append_right (by omega), hl, show (i + 1) * 4 + j - 4 = i * 4 + j by omega]
    exact pl_at l i j t (by simpa using h) hj
theorem OwnPl.cell {w : World} {A : Option Addr} {n c : Nat} {l : List EM.Pl} (h : OwnPl w (.slice A n c) l) {i : Nat} {t : EM.Pl} (ht : l[i]? = some t) :
    ∃ g, A = some ⟨g, 0, none⟩ ∧ g < w.heap.size ∧ w.cell? ⟨g, i * 4, none⟩ = some (.int .i64 (t.up : Int)) ∧ w.cell? ⟨g, i * 4 + 1, none⟩ = some (.string t.nm) ∧ w.cell? ⟨g, i * 4 + 2, none⟩ = some (.int .i64 t.k) ∧ w.cell? ⟨g, i * 4 + 3, none⟩ = some (.int .i64 t.n) := by
  have hi : i < l.length := (List.getElem?_eq_some_iff.1 ht).1
  obtain ⟨A', c', e, hr⟩ := own_read h
  injection e with e1 e2 e3
  subst e1
  obtain ⟨g, hg, h1, h2, h3⟩ := hr (i * 4) (by omega)
  subst hg
  have at_ : ∀ j, j < 4 → w.cell? ⟨g, i * 4 + j, none⟩ = (pcs t)[j]? := fun j hj => by
    obtain ⟨g', hg', _, _, h'⟩ := hr (i * 4 + j) (by omega)
    cases hg'
    rw [h', pl_at l i j t ht hj]
  exact ⟨g, rfl, h2, at_ 0 (by omega), at_ 1 (by omega), at_ 2 (by omega), at_ 3 (by omega)⟩

/-- The table T lies at block p, all of it in blocks of D. -/
structure Tw (w : World) (p : Nat) (D : Nat → Prop) (T : EM.Tb) : Prop where
  cells : ∃ mt v ma nt, Lies w p 63 [mt, v, ma] ∧ OwnPl w v T.P ∧ Mv encM w 0 mt nt T.tp ∧ nt ≤ T.nt ∧ Mv encB w 0 ma T.na T.A ∧ (∀ q, mt = .map (some q) → D q ∧ ma ≠ .map (some q)) ∧ (∀ q, ma = .map (some q) → D q) ∧ ∀ g, v.ownBlock = some g → D g
  self : D p
  low : ∀ g, D g → g < w.heap.size

section
variable {w w' : World} {p : Nat} {D D' X : Nat → Prop} {T : EM.Tb}
theorem Tw.turns (h : Tw w p D T) (k : Turns X w w') (hx : ∀ g, D g → ¬ X g) : Tw w' p D T := by
  obtain ⟨⟨mt, v, ma, nt, h1, h2, h3, h4, h5, h6, h7, h8⟩, h9, h10⟩ := h
  exact ⟨⟨mt, v, ma, nt, h1.turns k (hx p h9), own_turns h2 k (fun g hg => hx g (h8 g hg)), h3.turns k (fun q e => hx q (h6 q e).1), h4, h5.turns k (fun q e => hx q (h7 q e)), h6, h7, h8⟩, h9, fun g hg => Nat.lt_of_lt_of_le (h10 g hg) k.size⟩
theorem Tw.below (h : Tw w p D T) (k : Below w.heap.size w w') : Tw w' p D T := h.turns (Turns.of_below k (fun _ => False)) (fun _ _ h => h)
end
/-- a table without anything -/
def tb0 : EM.Tb := ⟨fun _ => none, 0, [], fun _ => none, 0⟩
theorem Tw.made (w : World) : Tw (w.alloc (.cells #[.map none, .slice none 0 0, .map none] 63)) w.heap.size (fun g => g = w.heap.size) tb0 := by
  have n1 : ∀ q : Nat, Value.map none ≠ .map (some q) := fun q h => by simp at h
  have n2 : ∀ g : Nat, (Value.slice none 0 0).ownBlock ≠ some g := fun g h => by simp [Value.ownBlock] at h
  exact ⟨⟨.map none, .slice none 0 0, .map none, 0, Lies.made w _ _, own_none _ 0 _ 4, .inl ⟨rfl, rfl, fun _ => rfl⟩, Nat.le_refl _, .inl ⟨rfl, rfl, fun _ => rfl⟩, fun q h => absurd h (n1 q), fun q h => absurd h (n1 q), fun g h => absurd h (n2 g)⟩, rfl, fun g hg => by subst hg; simp⟩
end Go.Proofs.YtbkjmmeipbbaaaaDoor
