/- The laws' own world: a register is set. -/
import Derived.Test.YtclcnepkgjcmcaaDoorQ31
import Derived.Test.YtclcnepkgjcmcaaDoorQ27
namespace Go.Proofs.YtclcnepkgjcmcaaDoor
open Go.RowKit

section
variable {w w' : World} {x q p b : Nat} {e : Int} {G : Geo} {M : Md} {N B : Nat} {blk : Nat → Nat} {fv : Nat → Value} {al : Value} {bad full : Bool} {K : Gk} {H : Hp} {R : Nat → List Int} {A D : Nat → Prop}
/-- what a value's word may be -/
theorem Safe.may (s : Safe e G H R M A D) {v : V} (hv : v.ok) (hA : v.Has A) : 0 ≤ v.wd M.cell ∧ v.wd M.cell < 18446744073709551616 ∧ G.may (v.wd M.cell) = true := by
  obtain ⟨v0, v1, h⟩ := s.ct.wd s.inv.ok hv (V.Has.mono s.ct.sub hA)
  refine ⟨v0, v1, ?_⟩
  unfold Geo.may
  rcases h with ⟨y, rfl, -⟩ | ⟨t, -, -, h⟩
  · have : WM.kd ((V.w y).wd M.cell) ≠ 2 := hv.2.2
    simp [this]
  · rw [h]
    rfl
/-- the things, with a register set -/
theorem Thw.setReg (T : Thw w B blk fv M N) {r : Nat} {v : V} (hv : v.Has (fun t => t < N)) : Thw w B blk fv (M.setReg r v) N :=
  ⟨T.here, T.rows, T.inj, T.own, T.named, fun k hk => by
    show (if k = r then v else M.reg k).Has _
    by_cases h : k = r
    · rw [if_pos h]; exact hv
    · rw [if_neg h]; exact T.regs k hk, T.len3⟩
theorem shade_q (i : Inv e G H R) (k : K H R A D) {v : Int} (v0 : 0 ≤ v) (v1 : v < 18446744073709551616) : K.quiet (H.shade G v) (H.shadeR G R v) A D := by
  obtain ⟨l1, l2⟩ := shade_len i v0 v1
  exact ⟨H, R, k, (shade_facts i v0 v1).2.2.2.2.1, (shade_facts i v0 v1).2.2.2.2.2.1, l1, l2⟩
theorem Gk.qq (h : K.quiet.quiet H R A D) : K.quiet H R A D := by
  obtain ⟨H1, R1, ⟨H2, R2, k, a1, a2, a3, a4⟩, b1, b2, b3, b4⟩ := h
  exact ⟨H2, R2, k, b1.trans a1, b2.trans a2, b3.trans a3, b4.trans a4⟩
theorem Gk.refl (k : K H R A D) : K.quiet H R A D := ⟨H, R, k, rfl, rfl, rfl, rfl⟩
theorem Safe.setRootK (s : Safe e G H R M A D) (k : K H R A D) {r : Nat} {v : V} (hv : v.ok) (hA : v.Has A) : K.quiet (H.setRoot G r (v.wd M.cell)) (H.shadeR G R (v.wd M.cell)) A D := by
  obtain ⟨v0, v1, -⟩ := s.ct.wd s.inv.ok hv (V.Has.mono s.ct.sub hA)
  obtain ⟨H1, R1, k1, e1, e2, e3, e4⟩ := shade_q s.inv k v0 v1
  exact ⟨H1, R1, k1, e1, e2, e3, e4⟩
theorem guard_q (i : Inv e G H R) (k : K H R A D) (m : Int) {old v : Int} (o0 : 0 ≤ old) (o1 : old < 18446744073709551616) (v0 : 0 ≤ v) (v1 : v < 18446744073709551616) : K.quiet (H.guard G m old v) (H.guardR G R m old v) A D := by
  unfold Hp.guard Hp.guardR
  obtain ⟨i1, -, -⟩ := inv_shade i o0 o1
  split
  · split
    · exact Gk.qq (shade_q i1 (shade_q i k o0 o1) v0 v1)
    · exact shade_q i k o0 o1
  · split
    · split
      · exact shade_q i k v0 v1
      · exact Gk.refl k
    · exact Gk.refl k
theorem Safe.setFK (s : Safe e G H R M A D) (k : K H R A D) {z j : Nat} {v : V} (hv : v.ok) (hA : v.Has A) : K.quiet (H.setF G (M.cell z) j (v.wd M.cell)) (H.setFR G R (M.cell z) j (v.wd M.cell)) A D := by
  obtain ⟨v0, v1, -⟩ := s.ct.wd s.inv.ok hv (V.Has.mono s.ct.sub hA)
  obtain ⟨H1, R1, k1, e1, e2, e3, e4⟩ := guard_q s.inv k (gv H.ws (M.cell z)) (s.inv.wrd (M.cell z + 3 + j)).1 (s.inv.wrd (M.cell z + 3 + j)).2 v0 v1
  exact ⟨H1, R1, k1, e1, e2, e3, e4⟩
/-- world.set, of a value that the heap holds -/
theorem Ws.setRegA (s : Ws w x q p b e G M N B blk fv al bad full K) (h : Tr w q p b G H) (hs : Safe e G H R M A D) (hk : K.low N H R A D) (hxg : x ≠ 0) {r : Nat} (hr : r < 8) {v : V} (hv : v.ok) (hA : v.Has A) (hN : v.Has (fun t => t < N)) :
    Calls Tryd.prog 22 #[.pointer (some ⟨x, 0, none⟩), .int .i64 (r : Int), vg blk v] w fun o w' => o = .returned (.tuple #[]) ∧ Ws w' x q p b e G (M.setReg r v) N B blk fv al bad full K.quiet ∧ Turns (fun k => k = x ∨ Own3 q p b k) w w' := by
  obtain ⟨v0, v1, hm⟩ := hs.may hv hA
  have hx := s.lx
  have far : ∀ k, B ≤ k → ¬ (k = x ∨ Own3 q p b k) := fun k hk h => by
    rcases h with rfl | h
    · omega
    · exact s.not3 hk h
  have hb : ∀ k, v = .t k → blk k ≠ x ∧ ¬ Own3 q p b (blk k) := fun k ev => by
    subst ev
    have := s.high k hN
    exact ⟨fun h => far _ this (.inl h), fun h => far _ this (.inr h)⟩
  refine (set_any hs.inv blk M.cell M.reg al bad full r hr v w s.cells h s.apart hxg (s.wcell hN) hb v0 v1 hm).mono ?_
  rintro o w' ⟨rfl, h1, h2, k⟩
  refine ⟨rfl, ⟨h1, ?_, s.all.turns k (fun g hg => far _ (s.all.lt g hg).1), ⟨_, _, A, D, h2, hs.setRoot hr hv hA, Gk.quiet_low (hs.setRootK hk hv hA)⟩, s.lq, s.lp, s.lb, s.lx, s.apart, s.high, Nat.le_trans s.sz k.size⟩, k⟩
  exact (s.things.turns k (fun i hi => far _ (s.high i hi)) (fun i hi g hg => far _ ((s.things.rows i hi).lt g hg).1)).setReg hN
/-- world.set, of a value whose thing is reached -/
theorem Ws.setReg (s : Ws w x q p b e G M N B blk fv al bad full K) (hxg : x ≠ 0) {r : Nat} (hr : r < 8) {v : V} (hv : v.ok) (hR : v.Has (Reach M)) :
    Calls Tryd.prog 22 #[.pointer (some ⟨x, 0, none⟩), .int .i64 (r : Int), vg blk v] w fun o w' => o = .returned (.tuple #[]) ∧ Ws w' x q p b e G (M.setReg r v) N B blk fv al bad full K.quiet ∧ Turns (fun k => k = x ∨ Own3 q p b k) w w' := by
  obtain ⟨H, R, A, D, h, hs, hk⟩ := s.heap
  exact s.setRegA h hs hk hxg hr hv (V.Has.mono (fun i => hs.reach) hR) (V.Has.mono (fun i => s.things.reach) hR)
end
end Go.Proofs.YtclcnepkgjcmcaaDoor

/- The laws' own world: a field of a thing that may be reached is set, in the heap. -/
namespace Go.Proofs.YtclcnepkgjcmcaaDoor
open Go.RowKit

section
variable {w w' : World} {x q p b z j : Nat} {e : Int} {G : Geo} {M : Md} {N B : Nat} {blk : Nat → Nat} {fv : Nat → Value} {al : Value} {bad full : Bool} {K : Gk} {H : Hp} {R : Nat → List Int} {A D : Nat → Prop}
/-- Set in the heap alone: the heap holds M with the field set, memory M as it was -/
theorem Ws.hset (s : Ws w x q p b e G M N B blk fv al bad full K) (h : Tr w q p b G H) (hs : Safe e G H R M A D) (hk : K.low N H R A D) (hz : A z) (hj : j < M.len z) {v : V} (hv : v.ok) (hA : v.Has A) (hf : M.form z = 1) :
    Calls Tryd.prog 25 #[.pointer (some ⟨q, 0, none⟩), .int .u64 (8 * M.cell z + 1), .int .i64 (j : Int), .int .u64 (v.wd M.cell)] w fun o w' => o = .returned .nilIface ∧
      (Lies w' x 43 (wcells q blk M.reg al bad full) ∧ Thw w' B blk fv M N ∧ OwnP w' B al ((List.range N).map blk) ∧ B ≤ w'.heap.size) ∧
      (∃ H' R', Tr w' q p b G H' ∧ Safe e G H' R' (M.setFld z j v) A D ∧ K.quiet.low N H' R' A D) ∧ Turns (Own3 q p b) w w' := by
  obtain ⟨v0, v1, hm⟩ := hs.may hv hA
  obtain ⟨kk, h4, hk13, hx⟩ := hs.ring hz
  obtain ⟨-, e1, e2, -⟩ := hs.sees hz
  refine (Set_yes hs.inv (M.cell z) h4 hk13 hx (j : Int) (v.wd M.cell) (by omega) (by omega) v0 v1 (.inr (.inl ⟨by omega, hm⟩)) w h).mono ?_
  rintro o w' ⟨rfl, h1, ht⟩
  exact ⟨rfl, ⟨s.cells.turns ht s.apart, s.things.turns ht (fun i hi => s.not3 (s.high i hi)) (fun i hi g hg => s.not3 ((s.things.rows i hi).lt g hg).1), s.all.turns ht (fun g hg => s.not3 (s.all.lt g hg).1), Nat.le_trans s.sz ht.size⟩, ⟨_, _, h1, hs.setF hz hj hv hA (.inl hf), Gk.quiet_low (hs.setFK hk hv hA)⟩, ht⟩
theorem Ws.hsetR (s : Ws w x q p b e G M N B blk fv al bad full K) (hz : Reach M z) (hj : j < M.len z) {v : V} (hv : v.ok) (hR : v.Has (Reach M)) (hf : M.form z = 1) :
    Calls Tryd.prog 25 #[.pointer (some ⟨q, 0, none⟩), .int .u64 (8 * M.cell z + 1), .int .i64 (j : Int), .int .u64 (v.wd M.cell)] w fun o w' => o = .returned .nilIface ∧
      (Lies w' x 43 (wcells q blk M.reg al bad full) ∧ Thw w' B blk fv M N ∧ OwnP w' B al ((List.range N).map blk) ∧ B ≤ w'.heap.size) ∧
      (∃ H R A D, Tr w' q p b G H ∧ Safe e G H R (M.setFld z j v) A D ∧ K.quiet.low N H R A D) ∧ Turns (Own3 q p b) w w' := by
  obtain ⟨H, R, A, D, h, hs, hk⟩ := s.heap
  refine (s.hset h hs hk (hs.reach hz) hj hv (V.Has.mono (fun i => hs.reach) hR) hf).mono ?_
  rintro o w' ⟨h1, h2, ⟨H', R', h3⟩, h4⟩
  exact ⟨h1, h2, ⟨H', R', A, D, h3⟩, h4⟩
end
end Go.Proofs.YtclcnepkgjcmcaaDoor

/- The laws' own things in memory: a field is stored. -/
namespace Go.Proofs.YtclcnepkgjcmcaaDoor
open Go.RowKit

theorem vcells_set (blk : Nat → Nat) (f : Nat → V) (v : V) : ∀ (n j : Nat), j < n → ((vcells blk f n).set (j * 2) (vw v)).set (j * 2 + 1) (vp blk v) = vcells blk (fun k => if k = j then v else f k) n
  | 0, j, h => absurd h (by omega)
  | n + 1, j, h => by
    have hl := vcells_len blk f n
    rw [vcells, vcells]
    by_cases e : j = n
    · subst e
      rw [List.set_append_right _ _ (by omega), hl, List.set_append_right _ _ (by omega), hl, show j * 2 - j * 2 = 0 by omega, show j * 2 + 1 - j * 2 = 1 by omega, if_pos rfl]
      rw [vcells_congr (blk := blk) (blk' := blk) (f := f) (f' := fun k => if k = j then v else f k) (n := j) (fun k hk => by rw [if_neg (by omega)]; exact ⟨rfl, rfl⟩)]
      rfl
    · rw [List.set_append_left _ _ (by omega), List.set_append_left _ _ (by rw [List.length_set]; omega), vcells_set blk f v n j (by omega), if_neg (by omega)]
theorem own_put {w : World} {B g n c sz : Nat} {t : TypeId} {xs : List Value} (h : w.ownsRow B t sz (.slice (some ⟨g, 0, none⟩) n c) n xs) (i : Nat) (u : Value) : (w.setCell ⟨g, i, none⟩ u).ownsRow B t sz (.slice (some ⟨g, 0, none⟩) n c) n (xs.set i u) := by
  obtain ⟨h1, h2⟩ := h
  rcases h2 with ⟨e0, _⟩ | ⟨g', c', cur, e0, hb, hh, hc, hm, hs, ht⟩
  · cases e0
  · injection e0 with e1 _ e3
    injection e1 with e1
    injection e1 with e1
    subst e1; subst e3
    refine ⟨by rw [List.length_set]; exact h1, .inr ⟨g, c, _, rfl, hb, heap_setCell_same w g i cur t u hh, hc, hm, by simpa using hs, ?_⟩⟩
    simp only [Array.toList_setIfInBounds]
    rw [List.take_set, ht]

section
variable {w w' : World} {B N g c z j : Nat} {blk : Nat → Nat} {fv : Nat → Value} {f : Nat → V} {M : Md} {n : Nat} {v : V}
theorem OwnV.put (h : OwnV w B (.slice (some ⟨g, 0, none⟩) n c) blk f n) (hj : j < n) (v : V) :
    OwnV ((w.setCell ⟨g, j * 2, none⟩ (vw v)).setCell ⟨g, j * 2 + 1, none⟩ (vp blk v)) B (.slice (some ⟨g, 0, none⟩) n c) blk (fun k => if k = j then v else f k) n := by
  have := own_put (own_put h (j * 2) (vw v)) (j * 2 + 1) (vp blk v)
  rw [vcells_set blk f v n j hj] at this
  exact this
/-- a field of one thing is stored: the others are as they were -/
theorem Thw.put (T : Thw w B blk fv M N) (hz : z < N) (hj : j < M.len z) (hg : fv z = .slice (some ⟨g, 0, none⟩) (M.len z) c) (hv : v.Has (fun t => t < N)) :
    Thw ((w.setCell ⟨g, j * 2, none⟩ (vw v)).setCell ⟨g, j * 2 + 1, none⟩ (vp blk v)) B blk fv (M.setFld z j v) N := by
  have ho : (fv z).ownBlock = some g := by rw [hg]; rfl
  refine ⟨fun i hi => ?_, fun i hi => ?_, T.inj, T.own, fun i hi k hk => ?_, T.regs, T.len3⟩
  · have ne : blk i ≠ g := fun e => (T.rows z hz).apart (T.here i hi) (by decide) (e ▸ ho)
    exact ((T.here i hi).far (p := ⟨g, j * 2, none⟩) ne _).far (p := ⟨g, j * 2 + 1, none⟩) ne _
  · by_cases e : i = z
    · subst e
      have h := T.rows i hi
      rw [hg] at h
      have h2 := OwnV.put (blk := blk) h hj v
      rw [hg]
      have e2 : (M.setFld i j v).fld i = fun k => if k = j then v else M.fld i k := by
        funext k
        simp [Md.setFld]
      show OwnV _ _ _ blk ((M.setFld i j v).fld i) (M.len i)
      rw [e2]
      exact h2
    · have e2 : (M.setFld z j v).fld i = M.fld i := by
        funext k
        simp [Md.setFld, e]
      show OwnV _ _ _ blk ((M.setFld z j v).fld i) (M.len i)
      rw [e2]
      have ne : (fv i).ownBlock ≠ some g := T.own z i hz hi (fun h => e h.symm) g ho
      exact ownsRow_setCell_other (ownsRow_setCell_other (T.rows i hi) (a := ⟨g, j * 2, none⟩) ne _) (a := ⟨g, j * 2 + 1, none⟩) ne _
  · show (if i = z ∧ k = j then v else M.fld i k).Has _
    by_cases e : i = z ∧ k = j
    · rw [if_pos e]; exact hv
    · rw [if_neg e]; exact T.named i hi k hk
end
end Go.Proofs.YtclcnepkgjcmcaaDoor

/- The laws' own world: a field of a thing is set, in the heap and in memory. -/
namespace Go.Proofs.YtclcnepkgjcmcaaDoor
open Go.RowKit

section
variable {w w' : World} {x q p b z j g c : Nat} {e : Int} {G : Geo} {M : Md} {N B : Nat} {blk : Nat → Nat} {fv : Nat → Value} {al : Value} {bad full : Bool} {K : Gk}
theorem own_types {t t' : TypeId} {s s' n n' : Nat} {v v' : Value} {cs cs' : List Value} (h : w.ownsRow B t s v n cs) (k : w.ownsRow B t' s' v' n' cs') (ht : t ≠ t') (hg : v'.ownBlock = some g) : v.ownBlock ≠ some g := fun e => by
  rcases h.2 with ⟨rfl, _⟩ | ⟨g1, c1, cur1, rfl, _, h1, _⟩
  · simp [Value.ownBlock] at e
  · rcases k.2 with ⟨rfl, _⟩ | ⟨g2, c2, cur2, rfl, _, h2, _⟩
    · simp [Value.ownBlock] at hg
    · have e1 : g1 = g := by simpa [Value.ownBlock] using e
      have e2 : g2 = g := by simpa [Value.ownBlock] using hg
      subst e1; subst e2
      have := h1.symm.trans h2
      simp at this
      exact ht this.2
/-- behind Ws.hset, the field's two cells are stored: the world is whole again -/
theorem Ws.put {K' : Gk} (s : Ws w x q p b e G M N B blk fv al bad full K') {v : V}
    (k : Lies w' x 43 (wcells q blk M.reg al bad full) ∧ Thw w' B blk fv M N ∧ OwnP w' B al ((List.range N).map blk) ∧ B ≤ w'.heap.size)
    (h : ∃ H R A D, Tr w' q p b G H ∧ Safe e G H R (M.setFld z j v) A D ∧ K.low N H R A D) (hz : z < N) (hj : j < M.len z) (hg : fv z = .slice (some ⟨g, 0, none⟩) (M.len z) c) (hv : v.Has (fun t => t < N)) :
    Ws ((w'.setCell ⟨g, j * 2, none⟩ (vw v)).setCell ⟨g, j * 2 + 1, none⟩ (vp blk v)) x q p b e G (M.setFld z j v) N B blk fv al bad full K := by
  obtain ⟨k1, k2, k3, k4⟩ := k
  obtain ⟨H, R, A, D, h, hs, hk⟩ := h
  have ho : (fv z).ownBlock = some g := by rw [hg]; rfl
  have hB := ((k2.rows z hz).lt g ho).1
  have := s.lq; have := s.lp; have := s.lb; have := s.lx
  have t : Turns (fun k => k = g) w' ((w'.setCell ⟨g, j * 2, none⟩ (vw v)).setCell ⟨g, j * 2 + 1, none⟩ (vp blk v)) :=
    ((Turns.refl (fun k => k = g) w').setCell (p := ⟨g, j * 2, none⟩) (fun _ => rfl) _).setCell (p := ⟨g, j * 2 + 1, none⟩) (fun _ => rfl) _
  exact ⟨k1.turns t (by omega), k2.put hz hj hg hv, k3.turns t (fun i hi ei => own_types k3 (k2.rows z hz) (by decide) ho (ei ▸ hi)),
    ⟨H, R, A, D, h.turns t (fun e => by omega) (fun e => by omega) (fun e => by omega) (fun e => by have := h.apart; omega), hs, hk⟩, s.lq, s.lp, s.lb, s.lx, s.apart, s.high, Nat.le_trans k4 t.size⟩
end
end Go.Proofs.YtclcnepkgjcmcaaDoor

/- The laws' own world: do, what all its kinds need. -/
namespace Go.Proofs.YtclcnepkgjcmcaaDoor
open Go.RowKit

theorem quiet_do {P : Program} {f : FuncId} {args : Array Value} {w : World} {n : Nat} {v : Value}
    (h : Calls P f args (w.drewN n) fun e w' => e = .returned v ∧ w.drewN n = w') : Calls P f args (w.drewN n) fun e w'' => e = .returned v ∧ ∃ m, w'' = w.drewN m :=
  h.mono fun _ _ ⟨he, hm⟩ => ⟨he, n, hm.symm⟩
theorem u_low (n : Int) : 0 ≤ n % 18446744073709551616 % 8 ∧ n % 18446744073709551616 % 8 < 8 := ⟨Int.emod_nonneg _ (by omega), Int.emod_lt_of_pos _ (by omega)⟩

/-- what do may turn: the law's world, the heap, and the rows that lie from B on; no map -/
def DoT (w : World) (x q p b B : Nat) (k : Nat) : Prop := (k = x ∨ Own3 q p b k) ∨ (B ≤ k ∧ ∀ ks, ¬ PMap w k ks)
theorem DoT.then_ {w w1 w2 : World} {x q p b B : Nat} (t : Turns (fun _ => False) w w1) (t2 : Turns (DoT w1 x q p b B) w1 w2) : Turns (DoT w x q p b B) w w2 :=
  (t.mono fun _ _ h => h.elim).then t2 (fun _ _ h => h.elim .inl (fun h => .inr ⟨h.1, fun ks pm => h.2 ks (pm.turns t (fun h => h))⟩))
theorem row_not_map {w : World} {B : Nat} {t : TypeId} {s m g : Nat} {v : Value} {cs : List Value} {ks : List Nat} (h : w.ownsRow B t s v m cs) (k : PMap w g ks) : ∀ i, v.ownBlock = some i → i ≠ g := fun i hi e => by
  subst e
  rcases h.2 with ⟨rfl, _⟩ | ⟨g', cap, cur, rfl, _, hh, _⟩
  · simp [Value.ownBlock] at hi
  · have : g' = i := by simpa [Value.ownBlock] using hi
    subst this
    unfold PMap at k
    rw [k] at hh
    cases hh
theorem fix_ok (n : Int) : (V.w (WM.mk 0 n)).ok := by
  have e : WM.mk 0 n % 8 = 0 := by unfold WM.mk; omega
  refine ⟨by unfold WM.mk; omega, by unfold WM.mk; omega, ?_⟩
  unfold WM.kd
  rw [e]
  split
  · unfold WM.kt; simp
  · omega
/-- a register's number -/
def rgn (n : Int) : Nat := (n % 18446744073709551616 % 8).toNat
theorem rgn_eq (n : Int) : n % 18446744073709551616 % 8 = (rgn n : Int) ∧ rgn n < 8 := by unfold rgn; omega
theorem wcells_at (q : Nat) (blk : Nat → Nat) (reg : Nat → V) (al : Value) (bad full : Bool) (r : Nat) (hr : r < 8) :
    (wcells q blk reg al bad full)[1 + r * 2]? = some (vw (reg r)) ∧ (wcells q blk reg al bad full)[1 + r * 2 + 1]? = some (vp blk (reg r)) := by
  rcases (show r = 0 ∨ r = 1 ∨ r = 2 ∨ r = 3 ∨ r = 4 ∨ r = 5 ∨ r = 6 ∨ r = 7 by omega) with rfl | rfl | rfl | rfl | rfl | rfl | rfl | rfl <;> exact ⟨rfl, rfl⟩
theorem Ws.regok {w : World} {x q p b : Nat} {e : Int} {G : Geo} {M : Md} {N B : Nat} {blk : Nat → Nat} {fv : Nat → Value} {al : Value} {bad full : Bool} {K : Gk} (s : Ws w x q p b e G M N B blk fv al bad full K) {r : Nat} (hr : r < 8) : (M.reg r).ok ∧ (M.reg r).Has (Reach M) := by
  obtain ⟨H, R, A, D, h, hs, hk⟩ := s.heap
  exact ⟨hs.ct.goodr r hr, (Reach.closed M).reg r hr⟩
/-- a register is the field of what another one names -/
def Md.get3 (M : Md) (ra rb : Nat) (n : Int) : Md :=
  match M.reg rb with
  | .w _ => M
  | .t z => if M.form z = 1 ∧ 0 < M.len z then M.setReg ra (M.fld z (n % 18446744073709551616 % (M.len z : Int)).toNat) else M
/-- the field of what a register names is what another one is -/
def Md.put4 (M : Md) (ra rb : Nat) (n : Int) : Md :=
  match M.reg ra with
  | .w _ => M
  | .t z => if M.form z = 1 ∧ 0 < M.len z then M.setFld z (n % 18446744073709551616 % (M.len z : Int)).toNat (M.reg rb) else M
theorem u_mod (n : Int) {l : Nat} (h : 0 < l) (hl : l ≤ 9223372036854775807) : wrap64 ((IntKind.u64.wrap n).tmod l) = ((n % 18446744073709551616 % (l : Int)).toNat : Int) := by
  have a := Int.emod_nonneg (n % 18446744073709551616) (show (l : Int) ≠ 0 by omega)
  have c := Int.emod_lt_of_pos (n % 18446744073709551616) (show (0 : Int) < l by omega)
  rw [IntKind.wrap_u64, Int.tmod_eq_emod_of_nonneg (by omega)]
  unfold wrap64
  omega
theorem u_modl (n : Int) {l : Nat} (h : 0 < l) : (n % 18446744073709551616 % (l : Int)).toNat < l := by
  have a := Int.emod_nonneg (n % 18446744073709551616) (show (l : Int) ≠ 0 by omega)
  have c := Int.emod_lt_of_pos (n % 18446744073709551616) (show (0 : Int) < l by omega)
  omega
theorem Ws.fldok {w : World} {x q p b : Nat} {e : Int} {G : Geo} {M : Md} {N B : Nat} {blk : Nat → Nat} {fv : Nat → Value} {al : Value} {bad full : Bool} {K : Gk} (s : Ws w x q p b e G M N B blk fv al bad full K) {z j : Nat} (hz : Reach M z) (hf : M.form z = 1) (hj : j < M.len z) : (M.fld z j).ok ∧ (M.fld z j).Has (Reach M) := by
  obtain ⟨H, R, A, D, h, hs, hk⟩ := s.heap
  exact ⟨hs.ct.goodf z (hs.reach hz) (by omega) j hj, (Reach.closed M).plain z hz hf j hj⟩
/-- 'bad' is stored -/
theorem Ws.setBad {w : World} {x q p b : Nat} {e : Int} {G : Geo} {M : Md} {N B : Nat} {blk : Nat → Nat} {fv : Nat → Value} {al : Value} {bad full : Bool} {K : Gk} (s : Ws w x q p b e G M N B blk fv al bad full K) (hxg : x ≠ 0) (c : Bool) : Ws (w.setCell ⟨x, 18, none⟩ (.bool c)) x q p b e G M N B blk fv al c full K := by
  obtain ⟨H, R, A, D, h, hs, hk⟩ := s.heap
  have t : Turns (fun k => k = x) w (w.setCell ⟨x, 18, none⟩ (.bool c)) := (Turns.refl (fun k => k = x) w).setCell (p := ⟨x, 18, none⟩) (fun _ => rfl) _
  have := s.lq; have := s.lp; have := s.lb; have hx := s.lx; have ap := s.apart
  refine ⟨?_, s.things.turns t (fun i hi e => by have := s.high i hi; omega) (fun i hi g hg e => by have := ((s.things.rows i hi).lt g hg).1; omega), s.all.turns t (fun g hg e => by have := (s.all.lt g hg).1; omega), ⟨H, R, A, D, h.turns t (fun e => ap (e ▸ .inl rfl)) (fun e => ap (e ▸ .inr (.inl rfl))) (fun e => ap (e ▸ .inr (.inr rfl))) (fun e => hxg e.symm), hs, hk⟩, s.lq, s.lp, s.lb, s.lx, s.apart, s.high, Nat.le_trans s.sz t.size⟩
  exact s.cells.stored 18 _
/-- a field's cells, and where they lie -/
theorem Thw.at_ {w : World} {B N z j g l c : Nat} {blk : Nat → Nat} {fv : Nat → Value} {M : Md} (T : Thw w B blk fv M N) (hz : z < N) (hj : j < M.len z) (hg : fv z = .slice (some ⟨g, 0, none⟩) l c) :
    w.cell? ⟨g, j * 2, none⟩ = some (vw (M.fld z j)) ∧ w.cell? ⟨g, j * 2 + 1, none⟩ = some (vp blk (M.fld z j)) ∧ w.cell? ⟨blk z, 1, none⟩ = some (.slice (some ⟨g, 0, none⟩) l c) ∧ B ≤ g := by
  obtain ⟨A, c', e, h⟩ := (T.rows z hz).read
  obtain ⟨g', rfl, -, h1, h2⟩ := h j hj
  have e2 := hg.symm.trans e
  injection e2 with e3 e4 e5
  injection e3 with e3
  injection e3 with e3
  subst e3
  exact ⟨h1, h2, ((T.here z hz).cell 1).trans (by rw [← hg]; rfl), ((T.rows z hz).lt g (by rw [hg]; rfl)).1⟩
/-- a field's cells can be stored into -/
theorem Thw.free {w : World} {B N z g l c : Nat} {blk : Nat → Nat} {fv : Nat → Value} {M : Md} (T : Thw w B blk fv M N) (hz : z < N) (hg : fv z = .slice (some ⟨g, 0, none⟩) l c) (i : Nat) : w.frozen? ⟨g, i, none⟩ = false := by
  have h := T.rows z hz
  rw [hg] at h
  rcases h.2 with ⟨e, _⟩ | ⟨g', c', cur, e, hb, hh, -⟩
  · cases e
  · injection e with e1
    injection e1 with e1
    injection e1 with e1
    subst e1
    have : Lies w g 39 cur.toList := by
      unfold Lies
      rw [hh]
    exact this.free i
/-- what Ws.hset leaves, with 'bad' stored as it was -/
theorem Ws.hbad {w w' : World} {x q p b : Nat} {e : Int} {G : Geo} {M M' : Md} {N B : Nat} {blk : Nat → Nat} {fv : Nat → Value} {al : Value} {bad full : Bool} {K K' : Gk} (s : Ws w x q p b e G M N B blk fv al bad full K) (hxg : x ≠ 0)
    (k : Lies w' x 43 (wcells q blk M.reg al bad full) ∧ Thw w' B blk fv M N ∧ OwnP w' B al ((List.range N).map blk) ∧ B ≤ w'.heap.size)
    (h : ∃ H R A D, Tr w' q p b G H ∧ Safe e G H R M' A D ∧ K' H R A D) :
    (Lies (w'.setCell ⟨x, 18, none⟩ (.bool bad)) x 43 (wcells q blk M.reg al bad full) ∧ Thw (w'.setCell ⟨x, 18, none⟩ (.bool bad)) B blk fv M N ∧ OwnP (w'.setCell ⟨x, 18, none⟩ (.bool bad)) B al ((List.range N).map blk) ∧ B ≤ (w'.setCell ⟨x, 18, none⟩ (.bool bad)).heap.size) ∧
    (∃ H R A D, Tr (w'.setCell ⟨x, 18, none⟩ (.bool bad)) q p b G H ∧ Safe e G H R M' A D ∧ K' H R A D) := by
  obtain ⟨k1, k2, k3, k4⟩ := k
  obtain ⟨H, R, A, D, h, hs, hk⟩ := h
  have t : Turns (fun k => k = x) w' (w'.setCell ⟨x, 18, none⟩ (.bool bad)) := (Turns.refl (fun k => k = x) w').setCell (p := ⟨x, 18, none⟩) (fun _ => rfl) _
  have := s.lq; have := s.lp; have := s.lb; have hx := s.lx; have ap := s.apart
  exact ⟨⟨k1.stored 18 _, k2.turns t (fun i hi e => by have := s.high i hi; omega) (fun i hi g hg e => by have := ((k2.rows i hi).lt g hg).1; omega), k3.turns t (fun g hg e => by have := (k3.lt g hg).1; omega), Nat.le_trans k4 t.size⟩,
    ⟨H, R, A, D, h.turns t (fun e => ap (e ▸ .inl rfl)) (fun e => ap (e ▸ .inr (.inl rfl))) (fun e => ap (e ▸ .inr (.inr rfl))) (fun e => hxg e.symm), hs, hk⟩⟩
end Go.Proofs.YtclcnepkgjcmcaaDoor
