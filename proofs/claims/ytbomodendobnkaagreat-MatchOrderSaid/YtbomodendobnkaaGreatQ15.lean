/- A datum that came in, with the bounds of its numbers and of its texts. (XDatIn's, with the texts' lengths.) -/
import Derived.Test.YtbomodendobnkaaGreatQ11
import Derived.Test.YtbomodendobnkaaGreatQ14
import Derived.Test.YtbomodendobnkaaGreatQ4
namespace Go.Proofs.YtbomodendobnkaaGreat
open Go.ChangeShapes Go.WideShapes Go.ChangeAt Go.RowKit Go.Deep

/-- each number is one of 64 bits, each text as long as a text may be -/
def BdS : RM.Dl → Prop
  | .nil => True
  | .cons k n s is r => (-9223372036854775808 ≤ k ∧ k ≤ 9223372036854775807) ∧ (-9223372036854775808 ≤ n ∧ n ≤ 9223372036854775807) ∧ s.length ≤ maxLen ∧ BdS is ∧ BdS r
theorem BdS.at_ : ∀ {d : RM.Dl} {i : Nat} {x : RM.Dm}, BdS d → d.at_ i = some x →
    (-9223372036854775808 ≤ x.k ∧ x.k ≤ 9223372036854775807) ∧ (-9223372036854775808 ≤ x.n ∧ x.n ≤ 9223372036854775807) ∧ x.s.length ≤ maxLen ∧ BdS x.is
  | .nil, _, _, _, hx => by simp [RM.Dl.at_] at hx
  | .cons k n s is r, 0, x, ⟨h1, h2, h3, h4, h5⟩, hx => by
    simp only [RM.Dl.at_, Option.some.injEq] at hx
    subst hx
    exact ⟨h1, h2, h3, h4⟩
  | .cons k n s is r, i + 1, x, ⟨h1, h2, h3, h4, h5⟩, hx => BdS.at_ h5 (show r.at_ i = some x from hx)
section
variable {H : Type} {enc : TypeId × Value → H} {W : World}
set_option maxRecDepth 100000 in
/-- one datum's four cells -/
theorem datum_cellsS {fuel : Nat} {cs : List Value} {x : DataW H × List MemPlace} (h : DataW.trod enc Tryz.prog W 0 (fun _ => true) true fuel 24 cs = some x) :
    ∃ (k n : Int) (s : ByteArray) (u : Value) (m : Nat) (y : DataW H × List MemPlace), fuel = m + 1 ∧ cs = [.int .i64 k, .int .i64 n, .string s, u] ∧ (-9223372036854775808 ≤ k ∧ k ≤ 9223372036854775807) ∧ (-9223372036854775808 ≤ n ∧ n ≤ 9223372036854775807)
      ∧ DataW.trod enc Tryz.prog W 0 (fun _ => true) true m 22 [u] = some y ∧ s.size ≤ maxLen := by
  obtain ⟨fs, hu, f0, f1, f2, f3⟩ := fieldsDatum
  obtain ⟨xs, m, hm, -, hl, hxl, hx⟩ := DataW.trod_struct hu h
  rw [fourDatum] at hl
  simp only [Option.map_eq_some_iff, Prod.mk.injEq] at f0 f1 f2 f3
  obtain ⟨q0, e0, t0, o0⟩ := f0
  obtain ⟨q1, e1, t1, o1⟩ := f1
  obtain ⟨q2, e2, t2, o2⟩ := f2
  obtain ⟨q3, e3, t3, o3⟩ := f3
  have hsz : 4 ≤ fs.size := by
    have := (Array.getElem?_eq_some_iff.1 e3).1; omega
  have g := fun i (hi : i < 4) => List.getElem?_eq_getElem (l := xs) (i := i) (by omega)
  have h0 := (hx 0 q0 e0).trans (g 0 (by omega))
  have h1 := (hx 1 q1 e1).trans (g 1 (by omega))
  have h2 := (hx 2 q2 e2).trans (g 2 (by omega))
  have h3 := (hx 3 q3 e3).trans (g 3 (by omega))
  obtain ⟨c0, c1, c2, c3, rfl⟩ : ∃ c0 c1 c2 c3, cs = [c0, c1, c2, c3] := by
    match cs, hl with
    | [c0, c1, c2, c3], _ => exact ⟨_, _, _, _, rfl⟩
  rw [t0, o0, oneInt] at h0
  rw [t1, o1, oneInt] at h1
  rw [t2, o2, oneString] at h2
  rw [t3, o3, oneData] at h3
  simp only [List.drop, List.take_succ_cons, List.take_zero] at h0 h1 h2 h3
  obtain ⟨k, ek, -, wk⟩ := DataW.trod_int Tryz.underlying3 h0
  obtain ⟨n, en, -, wn⟩ := DataW.trod_int Tryz.underlying3 h1
  obtain ⟨s, es, -, ws⟩ := DataW.trod_string Tryz.underlying9 h2
  simp only [List.cons.injEq, and_true] at ek en es
  subst ek en es
  exact ⟨k, n, s, c3, m, _, hm, rfl, bounds64 wk, bounds64 wn, h3, ws⟩
theorem data_rowS {b off len : Nat} (D : Nat → RM.Dm) (hb : 0 < len → b < W.heap.size)
    (hD : ∀ i, i < len → (W.cell? ⟨b, off + i * 4, none⟩ = some (.int .i64 (D i).k) ∧ W.cell? ⟨b, off + i * 4 + 1, none⟩ = some (.int .i64 (D i).n) ∧ W.cell? ⟨b, off + i * 4 + 2, none⟩ = some (.string ⟨(D i).s.toArray⟩)
      ∧ ∃ u, W.cell? ⟨b, off + i * 4 + 3, none⟩ = some u ∧ Cn W u (D i).is)
      ∧ (-9223372036854775808 ≤ (D i).k ∧ (D i).k ≤ 9223372036854775807) ∧ (-9223372036854775808 ≤ (D i).n ∧ (D i).n ≤ 9223372036854775807) ∧ (D i).s.length ≤ maxLen ∧ BdS (D i).is) :
    ∀ m, m ≤ len → ∃ d : RM.Dl, d.len = m ∧ CnAt W d b (off + (len - m) * 4) ∧ BdS d
  | 0, _ => ⟨.nil, rfl, trivial, trivial⟩
  | m + 1, hm => by
    obtain ⟨d, h1, h2, h3⟩ := data_rowS D hb hD m (by omega)
    obtain ⟨⟨c0, c1, c2, u, c3, hu⟩, b1, b2, b3, b4⟩ := hD (len - (m + 1)) (by omega)
    obtain ⟨A, c, rfl, hl, b', o', hA, hI⟩ := hu
    refine ⟨.cons (D (len - (m + 1))).k (D (len - (m + 1))).n (D (len - (m + 1))).s (D (len - (m + 1))).is d, by rw [RM.Dl.len, h1], ⟨hb (by omega), c0, c1, c2, ⟨A, c, c3, hl, b', o', hA, hI⟩, ?_⟩, b1, b2, b3, b4, h3⟩
    rw [show off + (len - (m + 1)) * 4 + 4 = off + (len - m) * 4 by omega]
    exact h2
/-- data that came in -/
theorem data_cellsS : ∀ (fuel : Nat) {cs : List Value} {x : DataW H × List MemPlace}, DataW.trod enc Tryz.prog W 0 (fun _ => true) true fuel 22 cs = some x →
    ∃ v d, cs = [v] ∧ Cn W v d ∧ BdS d := by
  intro fuel
  induction fuel using Nat.strongRecOn with
  | _ fuel ih =>
    intro cs x h
    rcases DataW.trod_slice Tryz.underlying22 h with ⟨rfl, -⟩ | ⟨a, len, cap, elems, rest, n, hn, rfl, -, -, hl, hm, hlen, hel, -, -⟩
    · exact ⟨_, .nil, rfl, Cn.nil _, trivial⟩
    · have each : ∀ i, i < len → ∃ x : RM.Dm, (W.cell? (a.add (i * 4)) = some (.int .i64 x.k) ∧ W.cell? (a.add (i * 4 + 1)) = some (.int .i64 x.n) ∧ W.cell? (a.add (i * 4 + 2)) = some (.string ⟨x.s.toArray⟩)
          ∧ ∃ u, W.cell? (a.add (i * 4 + 3)) = some u ∧ Cn W u x.is)
          ∧ (-9223372036854775808 ≤ x.k ∧ x.k ≤ 9223372036854775807) ∧ (-9223372036854775808 ≤ x.n ∧ x.n ≤ 9223372036854775807) ∧ x.s.length ≤ maxLen ∧ BdS x.is := by
        intro i hi
        have key := hel i hi
        rw [List.getElem?_eq_getElem (by omega)] at key
        obtain ⟨cs', h1, h2⟩ := Option.bind_eq_some_iff.1 key
        rw [fourDatum] at h1
        obtain ⟨k, n', s, u, m, y, hm', rfl, bk, bn, hu, hs⟩ := datum_cellsS h2
        obtain ⟨v, d, e, hI, hB⟩ := ih m (by omega) hu
        simp only [List.cons.injEq, and_true] at e
        subst e
        obtain ⟨_, _, hat⟩ := World.cells?_some h1
        have c0 := hat 0 (by omega)
        have c1 := hat 1 (by omega)
        have c2 := hat 2 (by omega)
        have c3 := hat 3 (by omega)
        rw [Go.Deep.add_add] at c0 c1 c2 c3
        exact ⟨⟨k, n', s.data.toList, d⟩, ⟨by simpa using c0, by simpa using c1, by simpa using c2, u, by simpa using c3, hI⟩, bk, bn, hs, hB⟩
      have each' : ∀ i, ∃ x : RM.Dm, i < len → (W.cell? (a.add (i * 4)) = some (.int .i64 x.k) ∧ W.cell? (a.add (i * 4 + 1)) = some (.int .i64 x.n) ∧ W.cell? (a.add (i * 4 + 2)) = some (.string ⟨x.s.toArray⟩)
          ∧ ∃ u, W.cell? (a.add (i * 4 + 3)) = some u ∧ Cn W u x.is)
          ∧ (-9223372036854775808 ≤ x.k ∧ x.k ≤ 9223372036854775807) ∧ (-9223372036854775808 ≤ x.n ∧ x.n ≤ 9223372036854775807) ∧ x.s.length ≤ maxLen ∧ BdS x.is := fun i => by
        by_cases hi : i < len
        · obtain ⟨x, hx⟩ := each i hi; exact ⟨x, fun _ => hx⟩
        · exact ⟨⟨0, 0, [], .nil⟩, fun h => absurd h hi⟩
      obtain ⟨D, hD⟩ := Classical.axiomOfChoice each'
      obtain ⟨b, off, spot⟩ := a
      by_cases h0 : 0 < len
      · have hspot : spot = none := by simpa [Addr.add] using World.cell?_spot (hD 0 h0).1.1
        subst hspot
        have hlt : b < W.heap.size := by
          have := World.block_lt_of_cell? W _ (hD 0 h0).1.1
          rwa [add_plain] at this
        obtain ⟨d, h1, h2, h3⟩ := data_rowS (W := W) (b := b) (off := off) D (fun _ => hlt) (fun i hi => by
          obtain ⟨⟨c0, c1, c2, u, c3, hu⟩, hr⟩ := hD i hi
          rw [add_plain] at c0 c1 c2 c3
          exact ⟨⟨c0, c1, c2, u, c3, hu⟩, hr⟩) len (Nat.le_refl _)
        rw [Nat.sub_self, Nat.zero_mul, Nat.add_zero] at h2
        exact ⟨_, d, rfl, ⟨some ⟨b, off, none⟩, cap, by rw [h1], ⟨by rw [h1]; omega, by unfold maxLen at hm; omega⟩, b, off, fun _ => rfl, h2⟩, h3⟩
      · obtain rfl : len = 0 := by omega
        exact ⟨_, .nil, rfl, ⟨some ⟨b, off, spot⟩, cap, rfl, ⟨by simp [RM.Dl.len], by unfold maxLen at hm; omega⟩, 0, 0, fun h => absurd h (by simp [RM.Dl.len]), trivial⟩, trivial⟩
set_option maxRecDepth 100000 in
theorem datum_openS {base : Nat} {v : Value} {d : DataW H} {ps : List MemPlace} (hv : Value.okWide Tryz.prog W .any base 24 v) (h : DataW.Trod enc Tryz.prog W 0 (fun _ => true) true 24 v d ps) :
    ∃ (x : RM.Dm) (A : Option Addr) (c : Nat), v = dtv x (.slice A x.is.len c) ∧ Cn W (.slice A x.is.len c) x.is ∧ (-9223372036854775808 ≤ x.k ∧ x.k ≤ 9223372036854775807) ∧ (-9223372036854775808 ≤ x.n ∧ x.n ≤ 9223372036854775807) ∧ x.s.length ≤ maxLen ∧ BdS x.is := by
  obtain ⟨cs, rfl, hs0⟩ := okWide_struct (Tryz.underlying24) hv
  obtain ⟨fuel, hf⟩ := h
  obtain ⟨k, n, s, u, m, y, -, e, bk, bn, hu, hs⟩ := datum_cellsS hf
  obtain ⟨v, d, e', hI, hB⟩ := data_cellsS m hu
  simp only [List.cons.injEq, and_true] at e'
  subst e'
  obtain ⟨A, c, rfl⟩ := hI.read
  refine ⟨⟨k, n, s.data.toList, d⟩, A, c, ?_, hI, bk, bn, hs, hB⟩
  unfold dtv
  congr 1
  obtain ⟨l⟩ := cs
  simp [Value.cells] at e
  subst e
  simp
end
end Go.Proofs.YtbomodendobnkaaGreat

/- Package match: behind; lay; row: a row's parts. -/
namespace Go.Proofs.YtbomodendobnkaaGreat
open Go.ChangeShapes Go.WideShapes Go.ChangeAt Go.RowKit Go.Deep

theorem two_boxes (w : World) (vs us : Array Value) (t u : TypeId) : Below w.heap.size w ((w.alloc (.cells vs t)).alloc (.cells us u)) ∧ Lies ((w.alloc (.cells vs t)).alloc (.cells us u)) w.heap.size t vs.toList ∧ Lies ((w.alloc (.cells vs t)).alloc (.cells us u)) (w.heap.size + 1) u us.toList := by
  refine ⟨(m_box w vs t).alloc (by simp) _, (Lies.made w t vs).alloc _, ?_⟩
  have := Lies.made (w.alloc (.cells vs t)) u us
  rwa [show (w.alloc (.cells vs t)).heap.size = w.heap.size + 1 by simp] at this
set_option maxRecDepth 100000 in
set_option maxHeartbeats 2000000 in
theorem behind_any (w0 w : World) (hw : Below w0.heap.size w0 w) (x : RM.Dm) (v : Value) (e : Nat) (hv : Cn w0 v x.is) (he : e ≤ x.is.len) :
    Calls Tryz.prog 53 #[dtv x v, .int .i64 (e : Int)] w fun r w' => ∃ v', r = .returned (dtv (MM.behind x e) v') ∧ Cn w0 v' (MM.behind x e).is ∧ Went w w' := by
  obtain ⟨A, c, rfl⟩ := hv.read
  obtain ⟨y, hyb⟩ : ∃ y, MM.behind x e = y := ⟨_, rfl⟩
  rw [hyb]
  obtain ⟨k, nn, s, is⟩ := x
  simp only at hv he ⊢
  have hlen := hv.len
  obtain ⟨N, hN⟩ : ∃ N, is.len = N := ⟨_, rfl⟩
  rw [hN] at hv he hlen ⊢
  obtain ⟨hb2, hL1, hL2⟩ := two_boxes w #[.int .i64 k, .int .i64 nn, .string ⟨s.toArray⟩, .slice A N c] #[.int .i64 0, .int .i64 0, .string ⟨#[]⟩, .slice none 0 0] 24 24
  by_cases hh : k = 7 ∧ e + 1 = N
  · obtain ⟨z, hz⟩ := is.at_some e (by omega)
    obtain rfl : z = y := by rw [← hyb]; unfold MM.behind; rw [if_pos (by simpa [hN] using hh), hz]; rfl
    obtain ⟨b, o, B, m, rfl, hlt, p0, p1, p2, p3, hd⟩ := hv.at_ hz
    have hw2 := hw.trans (hb2.mono hw.size)
    have q0 := (hw2.cell (p := ⟨b, o + e * 4, none⟩) hlt).trans p0
    have q1 := (hw2.cell (p := ⟨b, o + e * 4 + 1, none⟩) hlt).trans p1
    have q2 := (hw2.cell (p := ⟨b, o + e * 4 + 2, none⟩) hlt).trans p2
    have q3 := (hw2.cell (p := ⟨b, o + e * 4 + 3, none⟩) hlt).trans p3
    obtain ⟨rfl, h1⟩ := hh
    have e2 : ((e : Int) == (N : Int) - 1) = true := by have : (e : Int) = (N : Int) - 1 := by omega
                                                        simp [this]
    have e3 : e < N := by omega
    clear hz hyb hN h1 he hL1 p0 p1 p2 p3 hw2
    unfold dtv
    simp only
    go_enter Tryz.func53, Tryz.ntmps53
    go_wp2_with fail
    have hb3 := (two_boxes w #[.int .i64 7, .int .i64 nn, .string ⟨s.toArray⟩, .slice (some ⟨b, o, none⟩) N c] #[.int .i64 z.k, .int .i64 z.n, .string ⟨z.s.toArray⟩, .slice B z.is.len m] 24 24).1
    exact bodyPost_ret (v := .agg #[.int .i64 z.k, .int .i64 z.n, .string ⟨z.s.toArray⟩, .slice B z.is.len m]) (by simp [results, Tryz.results53, go_sem]) rfl ⟨_, rfl, hd, hb3⟩
  · have hyb2 : y = ⟨k, 0, [], SM.dr is e⟩ := by rw [← hyb]; unfold MM.behind; rw [if_neg (by simpa [hN] using hh)]
    subst hyb2
    obtain ⟨A1, c1, r1, hC1⟩ := hv.from_ (by omega : e ≤ is.len)
    have hC1' := Lib.hid hC1
    have hel : (SM.dr is e).len = N - e := by rw [SM.dr_len, hN]
    have e2 : k = 7 → ((e : Int) == (N : Int) - 1) = false := fun h7 => by
      have : ¬ (e : Int) = (N : Int) - 1 := by omega
      simp [this]
    clear hyb hN hv hC1 hL1
    unfold dtv
    simp only
    have hb3 := Lib.hid (below_drewN (two_boxes w #[.int .i64 k, .int .i64 nn, .string ⟨s.toArray⟩, .slice A N c] #[.int .i64 k, .int .i64 0, .string ⟨#[]⟩, .slice A1 (N - e) c1] 24 24).1 1)
    by_cases h7 : k = 7
    · subst h7
      have e3 := e2 rfl
      clear e2
      go_enter Tryz.func53, Tryz.ntmps53
      go_wp2_with fail
      go_region
      go_wp2_with fail
      exact bodyPost_ret (v := .agg #[.int .i64 7, .int .i64 0, .string ⟨#[]⟩, .slice A1 (N - e) c1]) (by simp [results, Tryz.results53, go_sem]) rfl ⟨_, rfl, hC1'.out, hb3.out⟩
    · clear e2
      go_enter Tryz.func53, Tryz.ntmps53
      go_wp2_with fail
      go_region
      go_wp2_with fail
      exact bodyPost_ret (v := .agg #[.int .i64 k, .int .i64 0, .string ⟨#[]⟩, .slice A1 (N - e) c1]) (by simp [results, Tryz.results53, go_sem]) rfl ⟨_, rfl, hC1'.out, hb3.out⟩

/-! ### rows -/
/-- a row's value: the slices of its four parts -/
def rwv (a b c d : Value) : Value := .agg #[a, b, c, d]
structure RowAt (w : World) (r : MM.Row) (a b c d : Value) : Prop where
  f : Cn w a r.f
  m : Cn w b r.m
  b : Cn w c r.b
  t : Cn w d r.t
theorem RowAt.below {w w' : World} {r : MM.Row} {a b c d : Value} (h : RowAt w r a b c d) (k : Below w.heap.size w w') : RowAt w' r a b c d := ⟨h.f.below k, h.m.below k, h.b.below k, h.t.below k⟩
theorem RowAt.drew {w : World} {r : MM.Row} {a b c d : Value} (h : RowAt w r a b c d) : RowAt w.drew r a b c d := ⟨h.f.drew, h.m.drew, h.b.drew, h.t.drew⟩
theorem BdS.tk : ∀ {d : RM.Dl} (i : Nat), BdS d → BdS (SM.tk d i)
  | d, 0, _ => by rw [show SM.tk d 0 = .nil by cases d <;> rfl]; exact trivial
  | .nil, i + 1, _ => trivial
  | .cons _ _ _ _ _, i + 1, ⟨h1, h2, h3, h4, h5⟩ => ⟨h1, h2, h3, h4, BdS.tk i h5⟩
theorem BdS.dr : ∀ {d : RM.Dl} (i : Nat), BdS d → BdS (SM.dr d i)
  | d, 0, h => by rw [SM.dr_zero]; exact h
  | .nil, i + 1, _ => trivial
  | .cons _ _ _ _ _, i + 1, ⟨_, _, _, _, h5⟩ => BdS.dr i h5
set_option maxRecDepth 100000 in
set_option maxHeartbeats 4000000 in
/-- the library's IndexFunc: where the first ellipsis stands -/
theorem index_any (w : World) (q m : Nat) (n : MM.NM) (v : Value) (l : RM.Dl) (hN : Nm w q m n) (hv : Cn w v l) (hs : BdS l) :
    Calls Tryz.prog 50 #[v, .func (.func 51) #[.map (some q)] #[]] w fun e w' => e = .returned (.int .i64 (if MM.ixe n l = l.len then -1 else (MM.ixe n l : Int))) ∧ Went w w' := by
  obtain ⟨A, c, rfl⟩ := hv.read
  have hlen := hv.len
  obtain ⟨X, hX⟩ : ∃ X : Int, (if MM.ixe n l = l.len then -1 else (MM.ixe n l : Int)) = X := ⟨_, rfl⟩
  rw [hX]
  obtain ⟨N, hN2⟩ : ∃ N, l.len = N := ⟨_, rfl⟩
  rw [hN2] at hv hlen hX ⊢
  have hN' := Lib.hid hN2
  have hX' := Lib.hid hX
  have hs' := Lib.hid hs
  clear hX hs hN2
  go_enter Tryz.func50, Tryz.ntmps50
  go_wp2_with fail
  go_loopw [8] (fun i wr => ∃ (j : Nat), j ≤ N ∧ i = .int .i64 j ∧ Hid (∀ k x, k < j → l.at_ k = some x → MM.cls n x ≠ 2) ∧ Below w.heap.size w wr) (fun i _ => N - (intOf i).toNat)
  case atStart => exact ⟨0, Nat.zero_le _, rfl, Lib.hid (fun k x h => absurd h (Nat.not_lt_zero _)), Below.refl _ w⟩
  case round =>
    obtain ⟨j, hj, rfl, hd, hb⟩ := hrel
    by_cases hlt : j < N
    · obtain ⟨x, hx⟩ := l.at_some j (by rw [hN'.out]; exact hlt)
      obtain ⟨g1, o1, B1, b1, rfl, hg1, p0, p1, p2, p3, hd1⟩ := (hv.below hb).at_ hx
      have hC := Lib.hid (isEllipsis_any wr q m n x _ (hN.below hb) (hs'.out.at_ hx).2.2.1 hd1)
      unfold dtv at hC
      have hx' := Lib.hid hx
      have hb' := Lib.hid hb
      clear hx hd1 hb
      by_cases hc : MM.cls n x = 2
      · rw [decide_eq_true hc] at hC
        have hc' := Lib.hid hc
        clear hc
        go_wp2_with (go_at_call 51; refine hC.out.mono ?_; rintro e w5 ⟨rfl, hb5⟩)
        go_ret
        have e1 : MM.ixe n l = j := MM.ixe_eq n l j hd.out (.inr ⟨x, hx'.out, hc'.out⟩)
        refine ⟨?_, hb'.out.trans (hb5.mono hb'.out.size)⟩
        rw [← hX'.out, e1, if_neg (by omega)]
        rfl
      · rw [decide_eq_false hc] at hC
        have hc' := Lib.hid hc
        clear hc
        go_wp2_with (go_at_call 51; refine hC.out.mono ?_; rintro e w5 ⟨rfl, hb5⟩)
        go_roundw
        case rel =>
          refine ⟨j + 1, by omega, by go_num, Lib.hid (fun k y hk hy => ?_), hb'.out.trans (hb5.mono hb'.out.size)⟩
          by_cases e : k = j
          · subst e
            rw [hx'.out] at hy
            cases hy
            exact hc'.out
          · exact hd.out k y (by omega) hy
        case measure => simp [intOf]; omega
    · obtain rfl : j = N := by omega
      go_wp2_with fail
      go_ret
      have e1 : MM.ixe n l = j := MM.ixe_eq n l j hd.out (.inl hN'.out.symm)
      refine ⟨?_, hb⟩
      rw [← hX'.out, e1, if_pos rfl]
      rfl
set_option maxRecDepth 100000 in
set_option maxHeartbeats 4000000 in
/-- (names).row: a pattern's row -/
theorem row_any (w0 w : World) (hw : Below w0.heap.size w0 w) (q m : Nat) (n : MM.NM) (x : RM.Dm) (v : Value) (hN : Nm w q m n) (hv : Cn w0 v x.is) (hs : BdS x.is) :
    Calls Tryz.prog 33 #[.map (some q), dtv x v] w fun e w' => ∃ a b c d, e = .returned (rwv a b c d) ∧ RowAt w0 (MM.rowp n x) a b c d ∧ Went w w' := by
  obtain ⟨A, c, rfl⟩ := hv.read
  have hP := Lib.hid (fun (w' : World) (_ : Below w.heap.size w w') => parted_of w0 w' x _ hv)
  have hI := Lib.hid (fun (w' : World) (hb : Below w.heap.size w w') A1 c1 (h1 : Cn w0 (.slice A1 (MM.items x).len c1) (MM.items x)) => index_any w' q m n (.slice A1 (MM.items x).len c1) (MM.items x) (hN.below hb) ((h1.below hw).below hb) (hs.tk _))
  have hle := MM.ixe_le n (MM.items x)
  unfold dtv at hP ⊢
  obtain ⟨it, hit⟩ : ∃ it, MM.items x = it := ⟨_, rfl⟩
  obtain ⟨la, hla⟩ : ∃ la, MM.last x = la := ⟨_, rfl⟩
  obtain ⟨R, hR⟩ : ∃ R, MM.rowp n x = R := ⟨_, rfl⟩
  obtain ⟨I, hI2⟩ : ∃ I, MM.ixe n it = I := ⟨_, rfl⟩
  have hRr := hR
  unfold MM.rowp at hRr
  rw [hR]
  rw [hit] at hP hI hle hRr
  rw [hla] at hP hRr
  rw [hI2] at hI hle hRr
  obtain ⟨N, hN2⟩ : ∃ N, it.len = N := ⟨_, rfl⟩
  obtain ⟨T, hT⟩ : ∃ T, la.len = T := ⟨_, rfl⟩
  rw [hN2] at hP hI hle hRr
  rw [hT] at hP
  have h63 : N ≤ 9223372036854775807 := by
    have h1 := MM.items_len x
    have h2 := MM.cut_le x
    have h3 := hv.len
    rw [hit, hN2] at h1
    omega
  obtain ⟨hb2, hL1, hL2⟩ := two_boxes w #[.int .i64 x.k, .int .i64 x.n, .string ⟨x.s.toArray⟩, .slice A x.is.len c] #[.slice none 0 0, .slice none 0 0, .slice none 0 0, .slice none 0 0] 24 78
  have hN2' := Lib.hid hN2
  clear hN hv hs hN2 hT hI2 hR hL1 hit hla hw
  by_cases h0 : I = 0 ∨ I = N
  · rw [if_pos h0] at hRr
    subst hRr
    obtain ⟨X, hX⟩ : ∃ X : Int, (if I = N then -1 else (I : Int)) = X := ⟨_, rfl⟩
    have hX1 : X < 1 := by rw [← hX]; split <;> omega
    rw [hX] at hI
    clear hX h0
    go_enter Tryz.func33, Tryz.ntmps33
    go_wp2_with (first
      | (go_at_call 49
         (with_reducible refine (hP.out _ hb2).mono ?_)
         rintro e w3 ⟨A1, c1, A2, c2, rfl, hC1, hC2, hb3⟩
         have hbw : Below w.heap.size w w3 := hb2.trans (hb3.mono hb2.size)
         have hM := hL2.below hb3 hL2.lt
         have hI3 := Lib.hid (hI.out w3 hbw A1 c1 hC1)
         have hRA := Lib.hid (RowAt.mk (r := ⟨it, .nil, .nil, la⟩) hC1 (Cn.nil w0) (Cn.nil w0) hC2)
         clear hC1 hC2 hb3)
      | (go_at_call 50
         (with_reducible refine hI3.out.mono ?_)
         rintro e w4 ⟨rfl, hb4⟩
         have hbx : Below w.heap.size w w4 := hbw.trans (hb4.mono hbw.size)
         have hM4 := hM.below hb4 hM.lt
         have z0 := hM4.cell 0
         have z1 := hM4.cell 1
         have z2 := hM4.cell 2
         have z3 := hM4.cell 3
         have zf := hM4.free
         simp only [List.getElem?_cons_zero, List.getElem?_cons_succ] at z0 z1 z2 z3))
    have hF := four_lies hM4 (.slice A1 N c1) (.slice none 0 0) (.slice none 0 0) (.slice A2 T c2)
    have r0 := hF.cell 0
    have r1 := hF.cell 1
    have r2 := hF.cell 2
    have r3 := hF.cell 3
    have hb10 := four_below hbx (g := w.heap.size + 1) (by omega) (.slice A1 N c1) (.slice none 0 0) (.slice none 0 0) (.slice A2 T c2)
    unfold four at r0 r1 r2 r3 hb10
    simp only [List.getElem?_cons_zero, List.getElem?_cons_succ] at r0 r1 r2 r3
    exact bodyPost_ret (v := rwv (.slice A1 N c1) (.slice none 0 0) (.slice none 0 0) (.slice A2 T c2)) (by simp [results, Tryz.results33, go_sem, r0, r1, r2, r3, rwv]) rfl ⟨_, _, _, _, rfl, hRA.out, hb10⟩
  · rw [if_neg h0] at hRr
    rw [if_neg (by omega)] at hI
    obtain ⟨a, rfl⟩ : ∃ a, I = a + 1 := ⟨I - 1, by omega⟩
    have ha : a + 1 < N := by omega
    obtain ⟨X, hX⟩ : ∃ X : Int, ((a + 1 : Nat) : Int) = X := ⟨_, rfl⟩
    have i1 : (a : Int) = X - 1 := by omega
    have i2 : ((a + 2 : Nat) : Int) = X + 1 := by omega
    rw [hX] at hI
    have hX1 : ¬ X < 1 := by omega
    have hX3 : X < N := by omega
    rw [show a + 1 - 1 = a by omega, show a + 1 + 1 = a + 2 by omega] at hRr
    subst hRr
    have i1' := Lib.hid i1
    have i2' := Lib.hid i2
    have hX' := Lib.hid hX
    clear hX i1 i2 h0 hle
    go_enter Tryz.func33, Tryz.ntmps33
    go_wp2_with (first
      | (go_at_call 49
         (with_reducible refine (hP.out _ hb2).mono ?_)
         rintro e w3 ⟨A1, c1, A2, c2, rfl, hC1, hC2, hb3⟩
         have hbw : Below w.heap.size w w3 := hb2.trans (hb3.mono hb2.size)
         have hM := hL2.below hb3 hL2.lt
         have hI3 := Lib.hid (hI.out w3 hbw A1 c1 hC1)
         obtain ⟨B1, d1, s1, D1⟩ := hC1.to (k := a) (by rw [hN2'.out]; omega)
         obtain ⟨B2, d2, s2, D2⟩ := hC1.cut (j := a) (k := a + 1) (by omega) (by rw [hN2'.out]; omega)
         obtain ⟨B3, d3, s3, D3⟩ := hC1.from_ (k := a + 2) (by rw [hN2'.out]; omega)
         rw [show a + 1 - a = 1 by omega] at s2 D2
         rw [i1'.out] at s1
         rw [i1'.out, hX'.out] at s2
         rw [i2'.out] at s3
         have hRA := Lib.hid (RowAt.mk (r := ⟨SM.tk it a, SM.tk (SM.dr it a) 1, SM.dr it (a + 2), la⟩) D1 D2 D3 hC2)
         clear hC1 hC2 hb3 D1 D2 D3)
      | (go_at_call 50
         (with_reducible refine hI3.out.mono ?_)
         rintro e w4 ⟨rfl, hb4⟩
         have hbx : Below w.heap.size w w4 := hbw.trans (hb4.mono hbw.size)
         have hM4 := hM.below hb4 hM.lt
         have z0 := hM4.cell 0
         have z1 := hM4.cell 1
         have z2 := hM4.cell 2
         have z3 := hM4.cell 3
         have zf := hM4.free
         simp only [List.getElem?_cons_zero, List.getElem?_cons_succ] at z0 z1 z2 z3))
    go_region
    go_wp2_with fail
    have hF := four_lies hM4 (.slice B1 a d1) (.slice B2 1 d2) (.slice B3 (N - (a + 2)) d3) (.slice A2 T c2)
    have r0 := hF.cell 0
    have r1 := hF.cell 1
    have r2 := hF.cell 2
    have r3 := hF.cell 3
    have hb10 := below_drewN (four_below hbx (g := w.heap.size + 1) (by omega) (.slice B1 a d1) (.slice B2 1 d2) (.slice B3 (N - (a + 2)) d3) (.slice A2 T c2)) 1
    unfold four at r0 r1 r2 r3 hb10
    simp only [List.getElem?_cons_zero, List.getElem?_cons_succ] at r0 r1 r2 r3
    exact bodyPost_ret (v := rwv (.slice B1 a d1) (.slice B2 1 d2) (.slice B3 (N - (a + 2)) d3) (.slice A2 T c2)) (by simp [results, Tryz.results33, go_sem, r0, r1, r2, r3, rwv]) rfl ⟨_, _, _, _, rfl, hRA.out, hb10⟩
end Go.Proofs.YtbomodendobnkaaGreat
