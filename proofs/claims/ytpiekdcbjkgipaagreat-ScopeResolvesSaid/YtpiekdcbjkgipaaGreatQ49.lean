/- Terms that came in: an argument of a law, as what can be read. -/
import Derived.Test.YtpiekdcbjkgipaaGreatQ5
namespace Go.Proofs.YtpiekdcbjkgipaaGreat
open Go.ChangeShapes Go.WideShapes Go.ChangeAt Go.RowKit Go.Deep
open TM (Tl Tm)

section
variable {H : Type} {enc : TypeId × Value → H} {W : World}
theorem fieldsTerm : ∃ fs : Array Field, Tryz.prog.underlying 28 = some (.struct fs)
    ∧ (fs[0]?).map (fun f => (f.type, f.offset)) = some (3, 0) ∧ (fs[1]?).map (fun f => (f.type, f.offset)) = some (3, 1) ∧ (fs[2]?).map (fun f => (f.type, f.offset)) = some (9, 2) ∧ (fs[3]?).map (fun f => (f.type, f.offset)) = some (22, 3) ∧ (fs[4]?).map (fun f => (f.type, f.offset)) = some (25, 4) ∧ (fs[5]?).map (fun f => (f.type, f.offset)) = some (26, 8) :=
  ⟨_, Tryz.underlying28, by kernel_rfl, by kernel_rfl, by kernel_rfl, by kernel_rfl, by kernel_rfl, by kernel_rfl⟩
theorem oneInts : Tryz.prog.cellsOf 22 = 1 := by kernel_rfl
theorem oneTerms : Tryz.prog.cellsOf 26 = 1 := by kernel_rfl
theorem nineTerm : Tryz.prog.cellsOf 28 = 9 := by kernel_rfl
/-- ints that came in -/
theorem ints_cells (fuel : Nat) {cs : List Value} {x : DataW H × List MemPlace} (h : DataW.trod enc Tryz.prog W 0 (fun _ => true) true fuel 22 cs = some x) :
    ∃ v l, cs = [v] ∧ PIn W v l ∧ ∀ p ∈ l, b64 p := by
  rcases DataW.trod_slice Tryz.underlying22 h with ⟨rfl, -⟩ | ⟨a, len, cap, elems, rest, n, hn, rfl, -, -, hl, hm, hlen, hel, -, -⟩
  · exact ⟨_, [], rfl, PIn.nil W, by simp⟩
  · have each : ∀ i, ∃ x : Int, i < len → (W.cell? (a.add i) = some (.int .i64 x) ∧ b64 x) := by
      intro i
      by_cases hi : i < len
      · have key := hel i hi
        rw [List.getElem?_eq_getElem (by omega)] at key
        obtain ⟨cs', h1, h2⟩ := Option.bind_eq_some_iff.1 key
        rw [oneInt] at h1
        obtain ⟨k, ek, -, wk⟩ := DataW.trod_int Tryz.underlying3 h2
        subst ek
        obtain ⟨_, _, hat⟩ := World.cells?_some h1
        have c0 := hat 0 (by omega)
        rw [Go.Deep.add_add] at c0
        exact ⟨k, fun _ => ⟨by simpa using c0, bounds64 wk⟩⟩
      · exact ⟨0, fun h => absurd h hi⟩
    obtain ⟨D, hD⟩ := Classical.axiomOfChoice each
    obtain ⟨b, off, spot⟩ := a
    have hlen2 : ((List.range len).map D).length = len := by simp
    have hbd : ∀ p ∈ (List.range len).map D, b64 p := by
      intro p hp
      simp only [List.mem_map, List.mem_range] at hp
      obtain ⟨i, hi, rfl⟩ := hp
      exact (hD i hi).2
    by_cases h0 : 0 < len
    · have hspot : spot = none := by simpa [Addr.add] using World.cell?_spot (hD 0 h0).1
      subst hspot
      have hlt : b < W.heap.size := by
        have := World.block_lt_of_cell? W _ (hD 0 h0).1
        rwa [add_plain] at this
      refine ⟨_, (List.range len).map D, rfl, ⟨some ⟨b, off, none⟩, cap, by rw [hlen2], by rw [hlen2]; unfold maxLen at hm; omega, b, off, fun _ => ⟨rfl, hlt⟩, fun j x hx => ?_⟩, hbd⟩
      have hj : j < len := by have := (List.getElem?_eq_some_iff.1 hx).1; omega
      rw [List.getElem?_map, List.getElem?_range hj] at hx
      simp only [Option.map_some, Option.some.injEq] at hx
      subst hx
      have := (hD j hj).1
      rwa [add_plain] at this
    · obtain rfl : len = 0 := by omega
      exact ⟨_, [], rfl, ⟨some ⟨b, off, spot⟩, cap, rfl, by simp, 0, 0, fun h => absurd h (by simp), fun j x hx => by simp at hx⟩, by simp⟩
set_option maxRecDepth 100000 in
/-- one term's nine cells -/
theorem term_cells {fuel : Nat} {cs : List Value} {x : DataW H × List MemPlace} (h : DataW.trod enc Tryz.prog W 0 (fun _ => true) true fuel 28 cs = some x) :
    ∃ (k n : Int) (s : ByteArray) (vp : Value) (ps : List Int) (dk dn : Int) (ds : ByteArray) (vi : Value) (is : RM.Dl) (u : Value) (m : Nat) (y : DataW H × List MemPlace), fuel = m + 1 ∧ cs = [.int .i64 k, .int .i64 n, .string s, vp, .int .i64 dk, .int .i64 dn, .string ds, vi, u]
      ∧ b64 k ∧ b64 n ∧ PIn W vp ps ∧ (∀ p ∈ ps, b64 p) ∧ b64 dk ∧ b64 dn ∧ In W vi is ∧ Bd is
      ∧ DataW.trod enc Tryz.prog W 0 (fun _ => true) true m 26 [u] = some y := by
  obtain ⟨fs, hu, f0, f1, f2, f3, f4, f5⟩ := fieldsTerm
  obtain ⟨xs, m, hm, -, hl, hxl, hx⟩ := DataW.trod_struct hu h
  rw [nineTerm] at hl
  simp only [Option.map_eq_some_iff, Prod.mk.injEq] at f0 f1 f2 f3 f4 f5
  obtain ⟨q0, e0, t0, o0⟩ := f0
  obtain ⟨q1, e1, t1, o1⟩ := f1
  obtain ⟨q2, e2, t2, o2⟩ := f2
  obtain ⟨q3, e3, t3, o3⟩ := f3
  obtain ⟨q4, e4, t4, o4⟩ := f4
  obtain ⟨q5, e5, t5, o5⟩ := f5
  have hsz : 6 ≤ fs.size := by
    have := (Array.getElem?_eq_some_iff.1 e5).1; omega
  have g := fun i (hi : i < 6) => List.getElem?_eq_getElem (l := xs) (i := i) (by omega)
  have h0 := (hx 0 q0 e0).trans (g 0 (by omega))
  have h1 := (hx 1 q1 e1).trans (g 1 (by omega))
  have h2 := (hx 2 q2 e2).trans (g 2 (by omega))
  have h3 := (hx 3 q3 e3).trans (g 3 (by omega))
  have h4 := (hx 4 q4 e4).trans (g 4 (by omega))
  have h5 := (hx 5 q5 e5).trans (g 5 (by omega))
  obtain ⟨c0, c1, c2, c3, c4, c5, c6, c7, c8, rfl⟩ : ∃ c0 c1 c2 c3 c4 c5 c6 c7 c8, cs = [c0, c1, c2, c3, c4, c5, c6, c7, c8] := by
    match cs, hl with
    | [c0, c1, c2, c3, c4, c5, c6, c7, c8], _ => exact ⟨_, _, _, _, _, _, _, _, _, rfl⟩
  rw [t0, o0, oneInt] at h0
  rw [t1, o1, oneInt] at h1
  rw [t2, o2, oneString] at h2
  rw [t3, o3, oneInts] at h3
  rw [t4, o4, fourDatum] at h4
  rw [t5, o5, oneTerms] at h5
  simp only [List.drop, List.take_succ_cons, List.take_zero] at h0 h1 h2 h3 h4 h5
  obtain ⟨k, ek, -, wk⟩ := DataW.trod_int Tryz.underlying3 h0
  obtain ⟨n, en, -, wn⟩ := DataW.trod_int Tryz.underlying3 h1
  obtain ⟨s, es, -, _⟩ := DataW.trod_string Tryz.underlying9 h2
  obtain ⟨vp, ps, ep, hp, bp⟩ := ints_cells m h3
  obtain ⟨dk, dn, ds, vi, m4, y4, -, ed, bdk, bdn, hd⟩ := datum_cells h4
  obtain ⟨vi', is, ei, hi, bi⟩ := data_cells m4 hd
  simp only [List.cons.injEq, and_true] at ek en es ep ed ei
  obtain ⟨rfl, rfl, rfl, rfl⟩ := ed
  subst ek en es ep ei
  exact ⟨k, n, s, _, ps, dk, dn, ds, _, is, c8, m, _, hm, rfl, bounds64 wk, bounds64 wn, hp, bp, bdk, bdn, hi, bi, h5⟩
theorem terms_row {b off len : Nat} (D : Nat → Tm) (hb : 0 < len → b < W.heap.size)
    (hD : ∀ i, i < len → (W.cell? ⟨b, off + i * 9, none⟩ = some (.int .i64 (D i).k) ∧ W.cell? ⟨b, off + i * 9 + 1, none⟩ = some (.int .i64 (D i).n) ∧ W.cell? ⟨b, off + i * 9 + 2, none⟩ = some (.string ⟨(D i).s.toArray⟩)
      ∧ (∃ u, W.cell? ⟨b, off + i * 9 + 3, none⟩ = some u ∧ PIn W u (D i).ps) ∧ W.cell? ⟨b, off + i * 9 + 4, none⟩ = some (.int .i64 (D i).d.k) ∧ W.cell? ⟨b, off + i * 9 + 5, none⟩ = some (.int .i64 (D i).d.n) ∧ W.cell? ⟨b, off + i * 9 + 6, none⟩ = some (.string ⟨(D i).d.s.toArray⟩)
      ∧ (∃ u, W.cell? ⟨b, off + i * 9 + 7, none⟩ = some u ∧ In W u (D i).d.is) ∧ (∃ u, W.cell? ⟨b, off + i * 9 + 8, none⟩ = some u ∧ TIn W u (D i).ks)) ∧ TmBd (D i)) :
    ∀ m, m ≤ len → ∃ t : Tl, t.len = m ∧ TInAt W t b (off + (len - m) * 9) ∧ TBd t
  | 0, _ => ⟨.nil, rfl, trivial, trivial⟩
  | m + 1, hm => by
    obtain ⟨t, h1, h2, h3⟩ := terms_row D hb hD m (by omega)
    obtain ⟨⟨c0, c1, c2, c3, c4, c5, c6, c7, u, c8, hu⟩, hB⟩ := hD (len - (m + 1)) (by omega)
    obtain ⟨A, c, rfl, hl, b', o', hA, hI⟩ := hu
    refine ⟨.cons (D (len - (m + 1))).k (D (len - (m + 1))).n (D (len - (m + 1))).s (D (len - (m + 1))).ps (D (len - (m + 1))).d (D (len - (m + 1))).ks t, by rw [Tl.len, h1], ⟨hb (by omega), c0, c1, c2, c3, c4, c5, c6, c7, ⟨A, c, c8, hl, b', o', hA, hI⟩, ?_⟩, hB.k, hB.n, hB.p, hB.dk, hB.dn, hB.d, hB.ks, h3⟩
    rw [show off + (len - (m + 1)) * 9 + 9 = off + (len - m) * 9 by omega]
    exact h2
/-- terms that came in -/
theorem terms_cells : ∀ (fuel : Nat) {cs : List Value} {x : DataW H × List MemPlace}, DataW.trod enc Tryz.prog W 0 (fun _ => true) true fuel 26 cs = some x →
    ∃ v t, cs = [v] ∧ TIn W v t ∧ TBd t := by
  intro fuel
  induction fuel using Nat.strongRecOn with
  | _ fuel ih =>
    intro cs x h
    rcases DataW.trod_slice Tryz.underlying26 h with ⟨rfl, -⟩ | ⟨a, len, cap, elems, rest, n, hn, rfl, -, -, hl, hm, hlen, hel, -, -⟩
    · exact ⟨_, .nil, rfl, TIn.nil W, trivial⟩
    · have each : ∀ i, ∃ x : Tm, i < len → (W.cell? (a.add (i * 9)) = some (.int .i64 x.k) ∧ W.cell? (a.add (i * 9 + 1)) = some (.int .i64 x.n) ∧ W.cell? (a.add (i * 9 + 2)) = some (.string ⟨x.s.toArray⟩)
          ∧ (∃ u, W.cell? (a.add (i * 9 + 3)) = some u ∧ PIn W u x.ps) ∧ W.cell? (a.add (i * 9 + 4)) = some (.int .i64 x.d.k) ∧ W.cell? (a.add (i * 9 + 5)) = some (.int .i64 x.d.n) ∧ W.cell? (a.add (i * 9 + 6)) = some (.string ⟨x.d.s.toArray⟩)
          ∧ (∃ u, W.cell? (a.add (i * 9 + 7)) = some u ∧ In W u x.d.is) ∧ (∃ u, W.cell? (a.add (i * 9 + 8)) = some u ∧ TIn W u x.ks)) ∧ TmBd x := by
        intro i
        by_cases hi : i < len
        · have key := hel i hi
          rw [List.getElem?_eq_getElem (by omega)] at key
          obtain ⟨cs', h1, h2⟩ := Option.bind_eq_some_iff.1 key
          rw [nineTerm] at h1
          obtain ⟨k, n', s, vp, ps, dk, dn, ds, vi, is, u, m, y, hm', rfl, bk, bn, hp, bp, bdk, bdn, hi', bi, hu⟩ := term_cells h2
          obtain ⟨v, t, e, hI, hB⟩ := ih m (by omega) hu
          simp only [List.cons.injEq, and_true] at e
          subst e
          obtain ⟨_, _, hat⟩ := World.cells?_some h1
          have c0 := hat 0 (by omega)
          have c1 := hat 1 (by omega)
          have c2 := hat 2 (by omega)
          have c3 := hat 3 (by omega)
          have c4 := hat 4 (by omega)
          have c5 := hat 5 (by omega)
          have c6 := hat 6 (by omega)
          have c7 := hat 7 (by omega)
          have c8 := hat 8 (by omega)
          rw [Go.Deep.add_add] at c0 c1 c2 c3 c4 c5 c6 c7 c8
          exact ⟨⟨k, n', s.data.toList, ps, ⟨dk, dn, ds.data.toList, is⟩, t⟩, fun _ => ⟨⟨by simpa using c0, by simpa using c1, by simpa using c2, ⟨vp, by simpa using c3, hp⟩, by simpa using c4, by simpa using c5, by simpa using c6, ⟨vi, by simpa using c7, hi'⟩, u, by simpa using c8, hI⟩, ⟨bk, bn, bp, bdk, bdn, bi, hB⟩⟩⟩
        · exact ⟨⟨0, 0, [], [], ⟨0, 0, [], .nil⟩, .nil⟩, fun h => absurd h hi⟩
      obtain ⟨D, hD⟩ := Classical.axiomOfChoice each
      obtain ⟨b, off, spot⟩ := a
      by_cases h0 : 0 < len
      · have hspot : spot = none := by simpa [Addr.add] using World.cell?_spot (hD 0 h0).1.1
        subst hspot
        have hlt : b < W.heap.size := by
          have := World.block_lt_of_cell? W _ (hD 0 h0).1.1
          rwa [add_plain] at this
        obtain ⟨t, h1, h2, h3⟩ := terms_row (W := W) (b := b) (off := off) D (fun _ => hlt) (fun i hi => by
          have hr := hD i hi
          simp only [add_plain] at hr
          exact hr) len (Nat.le_refl _)
        rw [Nat.sub_self, Nat.zero_mul, Nat.add_zero] at h2
        exact ⟨_, t, rfl, ⟨some ⟨b, off, none⟩, cap, by rw [h1], by rw [h1]; unfold maxLen at hm; omega, b, off, fun _ => rfl, h2⟩, h3⟩
      · obtain rfl : len = 0 := by omega
        exact ⟨_, .nil, rfl, ⟨some ⟨b, off, spot⟩, cap, rfl, by simp [Tl.len], 0, 0, fun h => absurd h (by simp [Tl.len]), trivial⟩, trivial⟩
set_option maxRecDepth 100000 in
theorem term_open {base : Nat} {v : Value} {d : DataW H} {ps : List MemPlace} (hv : Value.okWide Tryz.prog W .any base 28 v) (h : DataW.Trod enc Tryz.prog W 0 (fun _ => true) true 28 v d ps) :
    ∃ (t : Tm) (vp vi vk : Value), v = tmv t vp vi vk ∧ TmIn W t vp vi vk ∧ TmBd t := by
  obtain ⟨cs, rfl, hs⟩ := okWide_struct (Tryz.underlying28) hv
  obtain ⟨fuel, hf⟩ := h
  obtain ⟨k, n, s, vp, ps, dk, dn, ds, vi, is, u, m, y, -, e, bk, bn, hp, bp, bdk, bdn, hi, bi, hu⟩ := term_cells hf
  obtain ⟨v, t, e', hI, hB⟩ := terms_cells m hu
  simp only [List.cons.injEq, and_true] at e'
  subst e'
  refine ⟨⟨k, n, s.data.toList, ps, ⟨dk, dn, ds.data.toList, is⟩, t⟩, vp, vi, _, ?_, ⟨hp, hi, hI⟩, ⟨bk, bn, bp, bdk, bdn, bi, hB⟩⟩
  unfold tmv
  congr 1
  obtain ⟨l⟩ := cs
  simp [Value.cells] at e
  subst e
  simp
end
end Go.Proofs.YtpiekdcbjkgipaaGreat
