/- Data that can be read in memory, wherever they lie (also shared): what came in, and what is one's own. -/
import Derived.Test.YthfelkcomhflnaaDoorQ7
import Derived.Test.YthfelkcomhflnaaDoorQ2
namespace Go.Proofs.YthfelkcomhflnaaDoor
open Go.ChangeShapes Go.WideShapes Go.ChangeAt Go.RowKit Go.Deep

/-- these data lie in block b from o on -/
def InAt (w : World) : RM.Dl → Nat → Nat → Prop
  | .nil, _, _ => True
  | .cons k n s is r, b, o => b < w.heap.size ∧ w.cell? ⟨b, o, none⟩ = some (.int .i64 k) ∧ w.cell? ⟨b, o + 1, none⟩ = some (.int .i64 n) ∧ w.cell? ⟨b, o + 2, none⟩ = some (.string ⟨s.toArray⟩)
      ∧ (∃ A c, w.cell? ⟨b, o + 3, none⟩ = some (.slice A is.len c) ∧ is.len ≤ 9223372036854775807 ∧ ∃ b' o', (0 < is.len → A = some ⟨b', o', none⟩) ∧ InAt w is b' o') ∧ InAt w r b (o + 4)
/-- v is a slice of these data -/
def In (w : World) (v : Value) (d : RM.Dl) : Prop := ∃ A c, v = .slice A d.len c ∧ d.len ≤ 9223372036854775807 ∧ ∃ b o, (0 < d.len → A = some ⟨b, o, none⟩) ∧ InAt w d b o
/-- each number is one of 64 bits -/
def Bd : RM.Dl → Prop
  | .nil => True
  | .cons k n _ is r => (-9223372036854775808 ≤ k ∧ k ≤ 9223372036854775807) ∧ (-9223372036854775808 ≤ n ∧ n ≤ 9223372036854775807) ∧ Bd is ∧ Bd r

section
variable {w w' : World} {v : Value}
theorem InAt.below (k : Below w.heap.size w w') : ∀ {d : RM.Dl} {b o : Nat}, InAt w d b o → InAt w' d b o
  | .nil, _, _, _ => trivial
  | .cons _ _ _ _ _, b, o, ⟨h0, h1, h2, h3, ⟨A, c, h4, hl, b', o', h5, h6⟩, h7⟩ =>
    ⟨Nat.lt_of_lt_of_le h0 k.size, (k.cell (p := ⟨b, o, none⟩) h0).trans h1, (k.cell (p := ⟨b, o + 1, none⟩) h0).trans h2, (k.cell (p := ⟨b, o + 2, none⟩) h0).trans h3,
      ⟨A, c, (k.cell (p := ⟨b, o + 3, none⟩) h0).trans h4, hl, b', o', h5, InAt.below k h6⟩, InAt.below k h7⟩
theorem In.below {d : RM.Dl} (h : In w v d) (k : Below w.heap.size w w') : In w' v d := by
  obtain ⟨A, c, e, hl, b, o, h1, h2⟩ := h
  exact ⟨A, c, e, hl, b, o, h1, h2.below k⟩
theorem In.len {d : RM.Dl} (h : In w v d) : d.len ≤ 9223372036854775807 := by
  obtain ⟨A, c, e, hl, _⟩ := h; exact hl
theorem In.drew {d : RM.Dl} (h : In w v d) : In w.drew v d := h.below (below_of_drew (w := w) (w' := w.drew) (Below.refl _ _))
theorem In.read {d : RM.Dl} (h : In w v d) : ∃ A c, v = .slice A d.len c := by
  obtain ⟨A, c, e, _⟩ := h; exact ⟨A, c, e⟩
theorem InAt.at_ : ∀ {d : RM.Dl} {b o i : Nat} {x : RM.Dm}, InAt w d b o → d.at_ i = some x →
    b < w.heap.size ∧ w.cell? ⟨b, o + i * 4, none⟩ = some (.int .i64 x.k) ∧ w.cell? ⟨b, o + i * 4 + 1, none⟩ = some (.int .i64 x.n) ∧ w.cell? ⟨b, o + i * 4 + 2, none⟩ = some (.string ⟨x.s.toArray⟩)
      ∧ ∃ A c, w.cell? ⟨b, o + i * 4 + 3, none⟩ = some (.slice A x.is.len c) ∧ In w (.slice A x.is.len c) x.is
  | .nil, _, _, _, _, _, hx => by simp [RM.Dl.at_] at hx
  | .cons k n s is r, b, o, 0, x, ⟨h0, h1, h2, h3, ⟨A, c, h4, hl, b', o', h5, h6⟩, h7⟩, hx => by
    simp only [RM.Dl.at_, Option.some.injEq] at hx
    subst hx
    simp only [Nat.zero_mul, Nat.add_zero]
    exact ⟨h0, h1, h2, h3, A, c, h4, A, c, rfl, hl, b', o', h5, h6⟩
  | .cons k n s is r, b, o, i + 1, x, ⟨h0, h1, h2, h3, h4, h7⟩, hx => by
    have h := InAt.at_ h7 (show r.at_ i = some x from hx)
    rw [show o + (i + 1) * 4 = o + 4 + i * 4 by omega]
    exact h
theorem In.at_ {A : Option Addr} {n c : Nat} {d : RM.Dl} (h : In w (.slice A n c) d) {i : Nat} {x : RM.Dm} (hx : d.at_ i = some x) :
    ∃ b o B m, A = some ⟨b, o, none⟩ ∧ b < w.heap.size ∧ w.cell? ⟨b, o + i * 4, none⟩ = some (.int .i64 x.k) ∧ w.cell? ⟨b, o + i * 4 + 1, none⟩ = some (.int .i64 x.n) ∧ w.cell? ⟨b, o + i * 4 + 2, none⟩ = some (.string ⟨x.s.toArray⟩)
      ∧ w.cell? ⟨b, o + i * 4 + 3, none⟩ = some (.slice B x.is.len m) ∧ In w (.slice B x.is.len m) x.is := by
  obtain ⟨A', c', e, -, b, o, h1, h2⟩ := h
  injection e with e1 e2 e3
  subst e1 e2 e3
  have hl : 0 < d.len := by
    cases d with
    | nil => simp [RM.Dl.at_] at hx
    | cons => simp [RM.Dl.len]
  obtain ⟨g0, g1, g2, g3, B, m, g4, g5⟩ := h2.at_ hx
  exact ⟨b, o, B, m, h1 hl, g0, g1, g2, g3, g4, g5⟩
theorem Bd.at_ : ∀ {d : RM.Dl} {i : Nat} {x : RM.Dm}, Bd d → d.at_ i = some x →
    (-9223372036854775808 ≤ x.k ∧ x.k ≤ 9223372036854775807) ∧ (-9223372036854775808 ≤ x.n ∧ x.n ≤ 9223372036854775807) ∧ Bd x.is
  | .nil, _, _, _, hx => by simp [RM.Dl.at_] at hx
  | .cons k n s is r, 0, x, ⟨h1, h2, h4, h5⟩, hx => by
    simp only [RM.Dl.at_, Option.some.injEq] at hx
    subst hx
    exact ⟨h1, h2, h4⟩
  | .cons k n s is r, i + 1, x, ⟨h1, h2, h4, h5⟩, hx => Bd.at_ h5 (show r.at_ i = some x from hx)
theorem own_len {n sz : Nat} {e : TypeId} {xs : List Value} (h : w.ownsRow 0 e sz v n xs) : n ≤ 9223372036854775807 := by
  rcases h.2 with ⟨_, hn⟩ | ⟨g, cap, cur, _, _, _, hc, hm, _⟩
  · omega
  · unfold maxLen at hm; omega
/-- one's own data can be read -/
theorem InAt.of_dat {S : Nat → Prop} : ∀ {d : RM.Dl} {cs : List Value} {b o : Nat}, DatAt w S d cs → b < w.heap.size → (∀ j, j < cs.length → w.cell? ⟨b, o + j, none⟩ = cs[j]?) → InAt w d b o
  | .nil, _, _, _, _, _, _ => trivial
  | .cons k n s is r, cs, b, o, ⟨v, c1, c2, h1, h2, h3, h4, h5⟩, hb, hc => by
    subst h1
    obtain ⟨A, c, rfl, hr⟩ := own_read h2
    have hl : c1.length = is.len * 4 := h2.1
    refine ⟨hb, by have := hc 0 (by simp); simpa using this, by have := hc 1 (by simp); simpa using this, by have := hc 2 (by simp); simpa using this, ⟨A, c, by have := hc 3 (by simp); simpa using this, own_len h2, ?_⟩, InAt.of_dat h5 hb ?_⟩
    · by_cases h0 : 0 < is.len
      · obtain ⟨g, hg, _, hlt, _⟩ := hr 0 (by omega)
        refine ⟨g, 0, fun _ => hg, InAt.of_dat h4 hlt fun j hj => ?_⟩
        obtain ⟨g', hg', _, _, h'⟩ := hr j (by omega)
        rw [hg] at hg'
        cases hg'
        rw [Nat.zero_add]
        exact h'
      · have : is = .nil := by
          cases is with
          | nil => rfl
          | cons => simp [RM.Dl.len] at h0
        subst this
        exact ⟨0, 0, fun h => absurd h (by simp [RM.Dl.len]), trivial⟩
    · intro j hj
      have := hc (4 + j) (by simp; omega)
      rw [show o + 4 + j = o + (4 + j) by omega, this, List.getElem?_append_right (by simp)]
      simp
theorem Dat.in_ {S : Nat → Prop} {d : RM.Dl} (h : Dat w S v d) : In w v d := by
  obtain ⟨cs, h1, h2, h3⟩ := h
  have hlen := own_len h1
  obtain ⟨A, c, rfl, hr⟩ := own_read h1
  have hl : cs.length = d.len * 4 := h1.1
  by_cases h0 : 0 < d.len
  · obtain ⟨g, hg, _, hlt, _⟩ := hr 0 (by omega)
    refine ⟨A, c, rfl, hlen, g, 0, fun _ => hg, InAt.of_dat h3 hlt fun j hj => ?_⟩
    obtain ⟨g', hg', _, _, h'⟩ := hr j (by omega)
    rw [hg] at hg'
    cases hg'
    rw [Nat.zero_add]
    exact h'
  · have : d = .nil := by
      cases d with
      | nil => rfl
      | cons => simp [RM.Dl.len] at h0
    subst this
    exact ⟨A, c, rfl, hlen, 0, 0, fun h => absurd h (by simp [RM.Dl.len]), trivial⟩
end

/-! ### what came in -/
section
variable {H : Type} {enc : TypeId × Value → H} {W : World}
theorem fieldsDatum : ∃ fs : Array Field, Tryd.prog.underlying 42 = some (.struct fs)
    ∧ (fs[0]?).map (fun f => (f.type, f.offset)) = some (3, 0) ∧ (fs[1]?).map (fun f => (f.type, f.offset)) = some (3, 1) ∧ (fs[2]?).map (fun f => (f.type, f.offset)) = some (9, 2) ∧ (fs[3]?).map (fun f => (f.type, f.offset)) = some (40, 3) :=
  ⟨_, Tryd.underlying42, by kernel_rfl, by kernel_rfl, by kernel_rfl, by kernel_rfl⟩
theorem oneInt : Tryd.prog.cellsOf 3 = 1 := by kernel_rfl
theorem oneString : Tryd.prog.cellsOf 9 = 1 := by kernel_rfl
theorem oneData : Tryd.prog.cellsOf 40 = 1 := by kernel_rfl
theorem fourDatum : Tryd.prog.cellsOf 42 = 4 := by kernel_rfl
theorem bounds64 {n : Int} (h : (Lit.int .i64 n).wf = true) : -9223372036854775808 ≤ n ∧ n ≤ 9223372036854775807 := by
  simp [Lit.wf, show IntKind.i64.min = -9223372036854775808 by decide +kernel, show IntKind.i64.max = 9223372036854775807 by decide +kernel] at h
  exact h
set_option maxRecDepth 100000 in
/-- one datum's four cells -/
theorem datum_cells {fuel : Nat} {cs : List Value} {x : DataW H × List MemPlace} (h : DataW.trod enc Tryd.prog W 0 (fun _ => true) true fuel 42 cs = some x) :
    ∃ (k n : Int) (s : ByteArray) (u : Value) (m : Nat) (y : DataW H × List MemPlace), fuel = m + 1 ∧ cs = [.int .i64 k, .int .i64 n, .string s, u] ∧ (-9223372036854775808 ≤ k ∧ k ≤ 9223372036854775807) ∧ (-9223372036854775808 ≤ n ∧ n ≤ 9223372036854775807)
      ∧ DataW.trod enc Tryd.prog W 0 (fun _ => true) true m 40 [u] = some y := by
  obtain ⟨fs, hu, f0, f1, f2, f3⟩ := fieldsDatum
  obtain ⟨xs, m, hm, -, hl, hxl, hx⟩ := DataW.trod_struct hu h
  rw [fourDatum] at hl
  simp only [Option.map_eq_some_iff, Prod.mk.injEq] at f0 f1 f2 f3
  obtain ⟨q0, e0, t0, o0⟩ := f0
  obtain ⟨q1, e1, t1, o1⟩ := f1
  obtain ⟨q2, e2, t2, o2⟩ := f2
  obtain ⟨q3, e3, t3, o3⟩ := f3
  have hsz : 4 ≤ fs.size := by
    have := (Array.getElem?_eq_some_iff.1 e3).1; omega
  have g := fun i (hi : i < 4) => List.getElem?_eq_getElem (l := xs) (i := i) (by omega)
  have h0 := (hx 0 q0 e0).trans (g 0 (by omega))
  have h1 := (hx 1 q1 e1).trans (g 1 (by omega))
  have h2 := (hx 2 q2 e2).trans (g 2 (by omega))
  have h3 := (hx 3 q3 e3).trans (g 3 (by omega))
  obtain ⟨c0, c1, c2, c3, rfl⟩ : ∃ c0 c1 c2 c3, cs = [c0, c1, c2, c3] := by
    match cs, hl with
    | [c0, c1, c2, c3], _ => exact ⟨_, _, _, _, rfl⟩
  rw [t0, o0, oneInt] at h0
  rw [t1, o1, oneInt] at h1
  rw [t2, o2, oneString] at h2
  rw [t3, o3, oneData] at h3
  simp only [List.drop, List.take_succ_cons, List.take_zero] at h0 h1 h2 h3
  obtain ⟨k, ek, -, wk⟩ := DataW.trod_int Tryd.underlying3 h0
  obtain ⟨n, en, -, wn⟩ := DataW.trod_int Tryd.underlying3 h1
  obtain ⟨s, es, -, _⟩ := DataW.trod_string Tryd.underlying9 h2
  simp only [List.cons.injEq, and_true] at ek en es
  subst ek en es
  exact ⟨k, n, s, c3, m, _, hm, rfl, bounds64 wk, bounds64 wn, h3⟩
theorem data_row {b off len : Nat} (D : Nat → RM.Dm) (hb : 0 < len → b < W.heap.size)
    (hD : ∀ i, i < len → (W.cell? ⟨b, off + i * 4, none⟩ = some (.int .i64 (D i).k) ∧ W.cell? ⟨b, off + i * 4 + 1, none⟩ = some (.int .i64 (D i).n) ∧ W.cell? ⟨b, off + i * 4 + 2, none⟩ = some (.string ⟨(D i).s.toArray⟩)
      ∧ ∃ u, W.cell? ⟨b, off + i * 4 + 3, none⟩ = some u ∧ In W u (D i).is)
      ∧ (-9223372036854775808 ≤ (D i).k ∧ (D i).k ≤ 9223372036854775807) ∧ (-9223372036854775808 ≤ (D i).n ∧ (D i).n ≤ 9223372036854775807) ∧ Bd (D i).is) :
    ∀ m, m ≤ len → ∃ d : RM.Dl, d.len = m ∧ InAt W d b (off + (len - m) * 4) ∧ Bd d
  | 0, _ => ⟨.nil, rfl, trivial, trivial⟩
  | m + 1, hm => by
    obtain ⟨d, h1, h2, h3⟩ := data_row D hb hD m (by omega)
    obtain ⟨⟨c0, c1, c2, u, c3, hu⟩, b1, b2, b4⟩ := hD (len - (m + 1)) (by omega)
    obtain ⟨A, c, rfl, hl, b', o', hA, hI⟩ := hu
    refine ⟨.cons (D (len - (m + 1))).k (D (len - (m + 1))).n (D (len - (m + 1))).s (D (len - (m + 1))).is d, by rw [RM.Dl.len, h1], ⟨hb (by omega), c0, c1, c2, ⟨A, c, c3, hl, b', o', hA, hI⟩, ?_⟩, b1, b2, b4, h3⟩
    rw [show off + (len - (m + 1)) * 4 + 4 = off + (len - m) * 4 by omega]
    exact h2
/-- data that came in -/
theorem data_cells : ∀ (fuel : Nat) {cs : List Value} {x : DataW H × List MemPlace}, DataW.trod enc Tryd.prog W 0 (fun _ => true) true fuel 40 cs = some x →
    ∃ v d, cs = [v] ∧ In W v d ∧ Bd d := by
  intro fuel
  induction fuel using Nat.strongRecOn with
  | _ fuel ih =>
    intro cs x h
    rcases DataW.trod_slice Tryd.underlying40 h with ⟨rfl, -⟩ | ⟨a, len, cap, elems, rest, n, hn, rfl, -, -, hl, hm, hlen, hel, -, -⟩
    · exact ⟨_, .nil, rfl, ⟨none, 0, rfl, by simp [RM.Dl.len], 0, 0, fun h => absurd h (by simp [RM.Dl.len]), trivial⟩, trivial⟩
    · have each : ∀ i, i < len → ∃ x : RM.Dm, (W.cell? (a.add (i * 4)) = some (.int .i64 x.k) ∧ W.cell? (a.add (i * 4 + 1)) = some (.int .i64 x.n) ∧ W.cell? (a.add (i * 4 + 2)) = some (.string ⟨x.s.toArray⟩)
          ∧ ∃ u, W.cell? (a.add (i * 4 + 3)) = some u ∧ In W u x.is)
          ∧ (-9223372036854775808 ≤ x.k ∧ x.k ≤ 9223372036854775807) ∧ (-9223372036854775808 ≤ x.n ∧ x.n ≤ 9223372036854775807) ∧ Bd x.is := by
        intro i hi
        have key := hel i hi
        rw [List.getElem?_eq_getElem (by omega)] at key
        obtain ⟨cs', h1, h2⟩ := Option.bind_eq_some_iff.1 key
        rw [fourDatum] at h1
        obtain ⟨k, n', s, u, m, y, hm', rfl, bk, bn, hu⟩ := datum_cells h2
        obtain ⟨v, d, e, hI, hB⟩ := ih m (by omega) hu
        simp only [List.cons.injEq, and_true] at e
        subst e
        obtain ⟨_, _, hat⟩ := World.cells?_some h1
        have c0 := hat 0 (by omega)
        have c1 := hat 1 (by omega)
        have c2 := hat 2 (by omega)
        have c3 := hat 3 (by omega)
        rw [Go.Deep.add_add] at c0 c1 c2 c3
        exact ⟨⟨k, n', s.data.toList, d⟩, ⟨by simpa using c0, by simpa using c1, by simpa using c2, u, by simpa using c3, hI⟩, bk, bn, hB⟩
      have each' : ∀ i, ∃ x : RM.Dm, i < len → (W.cell? (a.add (i * 4)) = some (.int .i64 x.k) ∧ W.cell? (a.add (i * 4 + 1)) = some (.int .i64 x.n) ∧ W.cell? (a.add (i * 4 + 2)) = some (.string ⟨x.s.toArray⟩)
          ∧ ∃ u, W.cell? (a.add (i * 4 + 3)) = some u ∧ In W u x.is)
          ∧ (-9223372036854775808 ≤ x.k ∧ x.k ≤ 9223372036854775807) ∧ (-9223372036854775808 ≤ x.n ∧ x.n ≤ 9223372036854775807) ∧ Bd x.is := fun i => by
        by_cases hi : i < len
        · obtain ⟨x, hx⟩ := each i hi; exact ⟨x, fun _ => hx⟩
        · exact ⟨⟨0, 0, [], .nil⟩, fun h => absurd h hi⟩
      obtain ⟨D, hD⟩ := Classical.axiomOfChoice each'
      obtain ⟨b, off, spot⟩ := a
      by_cases h0 : 0 < len
      · have hspot : spot = none := by simpa [Addr.add] using World.cell?_spot (hD 0 h0).1.1
        subst hspot
        have hlt : b < W.heap.size := by
          have := World.block_lt_of_cell? W _ (hD 0 h0).1.1
          rwa [add_plain] at this
        obtain ⟨d, h1, h2, h3⟩ := data_row (W := W) (b := b) (off := off) D (fun _ => hlt) (fun i hi => by
          obtain ⟨⟨c0, c1, c2, u, c3, hu⟩, hr⟩ := hD i hi
          rw [add_plain] at c0 c1 c2 c3
          exact ⟨⟨c0, c1, c2, u, c3, hu⟩, hr⟩) len (Nat.le_refl _)
        rw [Nat.sub_self, Nat.zero_mul, Nat.add_zero] at h2
        exact ⟨_, d, rfl, ⟨some ⟨b, off, none⟩, cap, by rw [h1], by rw [h1]; unfold maxLen at hm; omega, b, off, fun _ => rfl, h2⟩, h3⟩
      · obtain rfl : len = 0 := by omega
        exact ⟨_, .nil, rfl, ⟨some ⟨b, off, spot⟩, cap, rfl, by simp [RM.Dl.len], 0, 0, fun h => absurd h (by simp [RM.Dl.len]), trivial⟩, trivial⟩
set_option maxRecDepth 100000 in
theorem data_open {base : Nat} {v : Value} {d : DataW H} {ps : List MemPlace} (hv : Value.okWide Tryd.prog W .any base 40 v) (h : DataW.Trod enc Tryd.prog W 0 (fun _ => true) true 40 v d ps) :
    ∃ A c x, v = .slice A (RM.Dl.len x) c ∧ In W (.slice A x.len c) x ∧ Bd x := by
  obtain ⟨a, n, c, rfl⟩ := okWide_slice Tryd.underlying40 hv
  obtain ⟨fuel, hf⟩ := h
  obtain ⟨u, x, e, hI, hB⟩ := data_cells fuel hf
  simp [Value.cells] at e
  subst e
  obtain ⟨A', c', e⟩ := hI.read
  rw [e] at hI
  exact ⟨A', c', x, e, hI, hB⟩
set_option maxRecDepth 100000 in
theorem datum_open {base : Nat} {v : Value} {d : DataW H} {ps : List MemPlace} (hv : Value.okWide Tryd.prog W .any base 42 v) (h : DataW.Trod enc Tryd.prog W 0 (fun _ => true) true 42 v d ps) :
    ∃ (x : RM.Dm) (A : Option Addr) (c : Nat), v = dtv x (.slice A x.is.len c) ∧ In W (.slice A x.is.len c) x.is ∧ (-9223372036854775808 ≤ x.k ∧ x.k ≤ 9223372036854775807) ∧ (-9223372036854775808 ≤ x.n ∧ x.n ≤ 9223372036854775807) ∧ Bd x.is := by
  obtain ⟨cs, rfl, hs⟩ := okWide_struct (Tryd.underlying42) hv
  obtain ⟨fuel, hf⟩ := h
  obtain ⟨k, n, s, u, m, y, -, e, bk, bn, hu⟩ := datum_cells hf
  obtain ⟨v, d, e', hI, hB⟩ := data_cells m hu
  simp only [List.cons.injEq, and_true] at e'
  subst e'
  obtain ⟨A, c, rfl⟩ := hI.read
  refine ⟨⟨k, n, s.data.toList, d⟩, A, c, ?_, hI, bk, bn, hB⟩
  unfold dtv
  congr 1
  obtain ⟨l⟩ := cs
  simp [Value.cells] at e
  subst e
  simp
end
end Go.Proofs.YthfelkcomhflnaaDoor
