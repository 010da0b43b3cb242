/- The laws' own world: a register is set. -/
import Derived.Test.YtfogfafanfiffaaGreatDoorQ33
namespace Go.Proofs.YtfogfafanfiffaaGreatDoor
open Go.RowKit

section
variable {w w' : World} {x q p b : Nat} {e : Int} {G : Geo} {M : Md} {N B : Nat} {blk : Nat → Nat} {fv : Nat → Value} {al : Value} {bad full : Bool} {K : Gk} {H : Hp} {R : Nat → List Int} {A D : Nat → Prop}
/-- what a value's word may be -/
theorem Safe.may (s : Safe e G H R M A D) {v : V} (hv : v.ok) (hA : v.Has A) : 0 ≤ v.wd M.cell ∧ v.wd M.cell < 18446744073709551616 ∧ G.may (v.wd M.cell) = true := by
  obtain ⟨v0, v1, h⟩ := s.ct.wd s.inv.ok hv (V.Has.mono s.ct.sub hA)
  refine ⟨v0, v1, ?_⟩
  unfold Geo.may
  rcases h with ⟨y, rfl, -⟩ | ⟨t, -, -, h⟩
  · have : WM.kd ((V.w y).wd M.cell) ≠ 2 := hv.2.2
    simp [this]
  · rw [h]
    rfl
/-- the things, with a register set -/
theorem Thw.setReg (T : Thw w B blk fv M N) {r : Nat} {v : V} (hv : v.Has (fun t => t < N)) : Thw w B blk fv (M.setReg r v) N :=
  ⟨T.here, T.rows, T.inj, T.own, T.named, fun k hk => by
    show (if k = r then v else M.reg k).Has _
    by_cases h : k = r
    · rw [if_pos h]; exact hv
    · rw [if_neg h]; exact T.regs k hk, T.len3⟩
theorem shade_q (i : Inv e G H R) (k : K H R A D) {v : Int} (v0 : 0 ≤ v) (v1 : v < 18446744073709551616) : K.quiet (H.shade G v) (H.shadeR G R v) A D := by
  obtain ⟨l1, l2⟩ := shade_len i v0 v1
  exact ⟨H, R, k, (shade_facts i v0 v1).2.2.2.2.1, (shade_facts i v0 v1).2.2.2.2.2.1, l1, l2⟩
theorem Gk.qq (h : K.quiet.quiet H R A D) : K.quiet H R A D := by
  obtain ⟨H1, R1, ⟨H2, R2, k, a1, a2, a3, a4⟩, b1, b2, b3, b4⟩ := h
  exact ⟨H2, R2, k, b1.trans a1, b2.trans a2, b3.trans a3, b4.trans a4⟩
theorem Gk.refl (k : K H R A D) : K.quiet H R A D := ⟨H, R, k, rfl, rfl, rfl, rfl⟩
theorem Safe.setRootK (s : Safe e G H R M A D) (k : K H R A D) {r : Nat} {v : V} (hv : v.ok) (hA : v.Has A) : K.quiet (H.setRoot G r (v.wd M.cell)) (H.shadeR G R (v.wd M.cell)) A D := by
  obtain ⟨v0, v1, -⟩ := s.ct.wd s.inv.ok hv (V.Has.mono s.ct.sub hA)
  obtain ⟨H1, R1, k1, e1, e2, e3, e4⟩ := shade_q s.inv k v0 v1
  exact ⟨H1, R1, k1, e1, e2, e3, e4⟩
theorem guard_q (i : Inv e G H R) (k : K H R A D) (m : Int) {old v : Int} (o0 : 0 ≤ old) (o1 : old < 18446744073709551616) (v0 : 0 ≤ v) (v1 : v < 18446744073709551616) : K.quiet (H.guard G m old v) (H.guardR G R m old v) A D := by
  unfold Hp.guard Hp.guardR
  obtain ⟨i1, -, -⟩ := inv_shade i o0 o1
  split
  · split
    · exact Gk.qq (shade_q i1 (shade_q i k o0 o1) v0 v1)
    · exact shade_q i k o0 o1
  · split
    · split
      · exact shade_q i k v0 v1
      · exact Gk.refl k
    · exact Gk.refl k
theorem Safe.setFK (s : Safe e G H R M A D) (k : K H R A D) {z j : Nat} {v : V} (hv : v.ok) (hA : v.Has A) : K.quiet (H.setF G (M.cell z) j (v.wd M.cell)) (H.setFR G R (M.cell z) j (v.wd M.cell)) A D := by
  obtain ⟨v0, v1, -⟩ := s.ct.wd s.inv.ok hv (V.Has.mono s.ct.sub hA)
  obtain ⟨H1, R1, k1, e1, e2, e3, e4⟩ := guard_q s.inv k (gv H.ws (M.cell z)) (s.inv.wrd (M.cell z + 3 + j)).1 (s.inv.wrd (M.cell z + 3 + j)).2 v0 v1
  exact ⟨H1, R1, k1, e1, e2, e3, e4⟩
/-- world.set, of a value that the heap holds -/
theorem Ws.setRegA (s : Ws w x q p b e G M N B blk fv al bad full K) (h : Tr w q p b G H) (hs : Safe e G H R M A D) (hk : K.low N H R A D) (hxg : x ≠ 0) {r : Nat} (hr : r < 8) {v : V} (hv : v.ok) (hA : v.Has A) (hN : v.Has (fun t => t < N)) :
    Calls Tryz.prog 30 #[.pointer (some ⟨x, 0, none⟩), .int .i64 (r : Int), vg blk v] w fun o w' => o = .returned (.tuple #[]) ∧ Ws w' x q p b e G (M.setReg r v) N B blk fv al bad full K.quiet ∧ Turns (fun k => k = x ∨ Own3 q p b k) w w' := by
  obtain ⟨v0, v1, hm⟩ := hs.may hv hA
  have hx := s.lx
  have far : ∀ k, B ≤ k → ¬ (k = x ∨ Own3 q p b k) := fun k hk h => by
    rcases h with rfl | h
    · omega
    · exact s.not3 hk h
  have hb : ∀ k, v = .t k → blk k ≠ x ∧ ¬ Own3 q p b (blk k) := fun k ev => by
    subst ev
    have := s.high k hN
    exact ⟨fun h => far _ this (.inl h), fun h => far _ this (.inr h)⟩
  refine (set_any hs.inv blk M.cell M.reg al bad full r hr v w s.cells h s.apart hxg (s.wcell hN) hb v0 v1 hm).mono ?_
  rintro o w' ⟨rfl, h1, h2, k⟩
  refine ⟨rfl, ⟨h1, ?_, s.all.turns k (fun g hg => far _ (s.all.lt g hg).1), ⟨_, _, A, D, h2, hs.setRoot hr hv hA, Gk.quiet_low (hs.setRootK hk hv hA)⟩, s.lq, s.lp, s.lb, s.lx, s.apart, s.high, Nat.le_trans s.sz k.size⟩, k⟩
  exact (s.things.turns k (fun i hi => far _ (s.high i hi)) (fun i hi g hg => far _ ((s.things.rows i hi).lt g hg).1)).setReg hN
/-- world.set, of a value whose thing is reached -/
theorem Ws.setReg (s : Ws w x q p b e G M N B blk fv al bad full K) (hxg : x ≠ 0) {r : Nat} (hr : r < 8) {v : V} (hv : v.ok) (hR : v.Has (Reach M)) :
    Calls Tryz.prog 30 #[.pointer (some ⟨x, 0, none⟩), .int .i64 (r : Int), vg blk v] w fun o w' => o = .returned (.tuple #[]) ∧ Ws w' x q p b e G (M.setReg r v) N B blk fv al bad full K.quiet ∧ Turns (fun k => k = x ∨ Own3 q p b k) w w' := by
  obtain ⟨H, R, A, D, h, hs, hk⟩ := s.heap
  exact s.setRegA h hs hk hxg hr hv (V.Has.mono (fun i => hs.reach) hR) (V.Has.mono (fun i => s.things.reach) hR)
end
end Go.Proofs.YtfogfafanfiffaaGreatDoor

/- The laws' own world: a field of a thing that may be reached is set, in the heap. -/
namespace Go.Proofs.YtfogfafanfiffaaGreatDoor
open Go.RowKit

section
variable {w w' : World} {x q p b z j : Nat} {e : Int} {G : Geo} {M : Md} {N B : Nat} {blk : Nat → Nat} {fv : Nat → Value} {al : Value} {bad full : Bool} {K : Gk} {H : Hp} {R : Nat → List Int} {A D : Nat → Prop}
/-- Set in the heap alone: the heap holds M with the field set, memory M as it was -/
theorem Ws.hset (s : Ws w x q p b e G M N B blk fv al bad full K) (h : Tr w q p b G H) (hs : Safe e G H R M A D) (hk : K.low N H R A D) (hz : A z) (hj : j < M.len z) {v : V} (hv : v.ok) (hA : v.Has A) (hf : M.form z = 1) :
    Calls Tryz.prog 31 #[.pointer (some ⟨q, 0, none⟩), .int .u64 (8 * M.cell z + 1), .int .i64 (j : Int), .int .u64 (v.wd M.cell)] w fun o w' => o = .returned .nilIface ∧
      (Lies w' x 42 (wcells q blk M.reg al bad full) ∧ Thw w' B blk fv M N ∧ OwnP w' B al ((List.range N).map blk) ∧ B ≤ w'.heap.size) ∧
      (∃ H' R', Tr w' q p b G H' ∧ Safe e G H' R' (M.setFld z j v) A D ∧ K.quiet.low N H' R' A D) ∧ Turns (Own3 q p b) w w' := by
  obtain ⟨v0, v1, hm⟩ := hs.may hv hA
  obtain ⟨kk, h4, hk13, hx⟩ := hs.ring hz
  obtain ⟨-, e1, e2, -⟩ := hs.sees hz
  refine (Set_yes hs.inv (M.cell z) h4 hk13 hx (j : Int) (v.wd M.cell) (by omega) (by omega) v0 v1 (.inr (.inl ⟨by omega, hm⟩)) w h).mono ?_
  rintro o w' ⟨rfl, h1, ht⟩
  exact ⟨rfl, ⟨s.cells.turns ht s.apart, s.things.turns ht (fun i hi => s.not3 (s.high i hi)) (fun i hi g hg => s.not3 ((s.things.rows i hi).lt g hg).1), s.all.turns ht (fun g hg => s.not3 (s.all.lt g hg).1), Nat.le_trans s.sz ht.size⟩, ⟨_, _, h1, hs.setF hz hj hv hA (.inl hf), Gk.quiet_low (hs.setFK hk hv hA)⟩, ht⟩
theorem Ws.hsetR (s : Ws w x q p b e G M N B blk fv al bad full K) (hz : Reach M z) (hj : j < M.len z) {v : V} (hv : v.ok) (hR : v.Has (Reach M)) (hf : M.form z = 1) :
    Calls Tryz.prog 31 #[.pointer (some ⟨q, 0, none⟩), .int .u64 (8 * M.cell z + 1), .int .i64 (j : Int), .int .u64 (v.wd M.cell)] w fun o w' => o = .returned .nilIface ∧
      (Lies w' x 42 (wcells q blk M.reg al bad full) ∧ Thw w' B blk fv M N ∧ OwnP w' B al ((List.range N).map blk) ∧ B ≤ w'.heap.size) ∧
      (∃ H R A D, Tr w' q p b G H ∧ Safe e G H R (M.setFld z j v) A D ∧ K.quiet.low N H R A D) ∧ Turns (Own3 q p b) w w' := by
  obtain ⟨H, R, A, D, h, hs, hk⟩ := s.heap
  refine (s.hset h hs hk (hs.reach hz) hj hv (V.Has.mono (fun i => hs.reach) hR) hf).mono ?_
  rintro o w' ⟨h1, h2, ⟨H', R', h3⟩, h4⟩
  exact ⟨h1, h2, ⟨H', R', A, D, h3⟩, h4⟩
end
end Go.Proofs.YtfogfafanfiffaaGreatDoor

/- The laws' own things in memory: a field is stored. -/
namespace Go.Proofs.YtfogfafanfiffaaGreatDoor
open Go.RowKit

theorem vcells_set (blk : Nat → Nat) (f : Nat → V) (v : V) : ∀ (n j : Nat), j < n → ((vcells blk f n).set (j * 2) (vw v)).set (j * 2 + 1) (vp blk v) = vcells blk (fun k => if k = j then v else f k) n
  | 0, j, h => absurd h (by omega)
  | n + 1, j, h => by
    have hl := vcells_len blk f n
    rw [vcells, vcells]
    by_cases e : j = n
    · subst e
      rw [List.set_append_right _ _ (by omega), hl, List.set_append_right _ _ (by omega), hl, show j * 2 - j * 2 = 0 by omega, show j * 2 + 1 - j * 2 = 1 by omega, if_pos rfl]
      rw [vcells_congr (blk := blk) (blk' := blk) (f := f) (f' := fun k => if k = j then v else f k) (n := j) (fun k hk => by rw [if_neg (by omega)]; exact ⟨rfl, rfl⟩)]
      rfl
    · rw [List.set_append_left _ _ (by omega), List.set_append_left _ _ (by rw [List.length_set]; omega), vcells_set blk f v n j (by omega), if_neg (by omega)]
theorem own_put {w : World} {B g n c sz : Nat} {t : TypeId} {xs : List Value} (h : w.ownsRow B t sz (.slice (some ⟨g, 0, none⟩) n c) n xs) (i : Nat) (u : Value) : (w.setCell ⟨g, i, none⟩ u).ownsRow B t sz (.slice (some ⟨g, 0, none⟩) n c) n (xs.set i u) := by
  obtain ⟨h1, h2⟩ := h
  rcases h2 with ⟨e0, _⟩ | ⟨g', c', cur, e0, hb, hh, hc, hm, hs, ht⟩
  · cases e0
  · injection e0 with e1 _ e3
    injection e1 with e1
    injection e1 with e1
    subst e1; subst e3
    refine ⟨by rw [List.length_set]; exact h1, .inr ⟨g, c, _, rfl, hb, heap_setCell_same w g i cur t u hh, hc, hm, by simpa using hs, ?_⟩⟩
    simp only [Array.toList_setIfInBounds]
    rw [List.take_set, ht]

section
variable {w w' : World} {B N g c z j : Nat} {blk : Nat → Nat} {fv : Nat → Value} {f : Nat → V} {M : Md} {n : Nat} {v : V}
theorem OwnV.put (h : OwnV w B (.slice (some ⟨g, 0, none⟩) n c) blk f n) (hj : j < n) (v : V) :
    OwnV ((w.setCell ⟨g, j * 2, none⟩ (vw v)).setCell ⟨g, j * 2 + 1, none⟩ (vp blk v)) B (.slice (some ⟨g, 0, none⟩) n c) blk (fun k => if k = j then v else f k) n := by
  have := own_put (own_put h (j * 2) (vw v)) (j * 2 + 1) (vp blk v)
  rw [vcells_set blk f v n j hj] at this
  exact this
/-- a field of one thing is stored: the others are as they were -/
theorem Thw.put (T : Thw w B blk fv M N) (hz : z < N) (hj : j < M.len z) (hg : fv z = .slice (some ⟨g, 0, none⟩) (M.len z) c) (hv : v.Has (fun t => t < N)) :
    Thw ((w.setCell ⟨g, j * 2, none⟩ (vw v)).setCell ⟨g, j * 2 + 1, none⟩ (vp blk v)) B blk fv (M.setFld z j v) N := by
  have ho : (fv z).ownBlock = some g := by rw [hg]; rfl
  refine ⟨fun i hi => ?_, fun i hi => ?_, T.inj, T.own, fun i hi k hk => ?_, T.regs, T.len3⟩
  · have ne : blk i ≠ g := fun e => (T.rows z hz).apart (T.here i hi) (by decide) (e ▸ ho)
    exact ((T.here i hi).far (p := ⟨g, j * 2, none⟩) ne _).far (p := ⟨g, j * 2 + 1, none⟩) ne _
  · by_cases e : i = z
    · subst e
      have h := T.rows i hi
      rw [hg] at h
      have h2 := OwnV.put (blk := blk) h hj v
      rw [hg]
      have e2 : (M.setFld i j v).fld i = fun k => if k = j then v else M.fld i k := by
        funext k
        simp [Md.setFld]
      show OwnV _ _ _ blk ((M.setFld i j v).fld i) (M.len i)
      rw [e2]
      exact h2
    · have e2 : (M.setFld z j v).fld i = M.fld i := by
        funext k
        simp [Md.setFld, e]
      show OwnV _ _ _ blk ((M.setFld z j v).fld i) (M.len i)
      rw [e2]
      have ne : (fv i).ownBlock ≠ some g := T.own z i hz hi (fun h => e h.symm) g ho
      exact ownsRow_setCell_other (ownsRow_setCell_other (T.rows i hi) (a := ⟨g, j * 2, none⟩) ne _) (a := ⟨g, j * 2 + 1, none⟩) ne _
  · show (if i = z ∧ k = j then v else M.fld i k).Has _
    by_cases e : i = z ∧ k = j
    · rw [if_pos e]; exact hv
    · rw [if_neg e]; exact T.named i hi k hk
end
end Go.Proofs.YtfogfafanfiffaaGreatDoor

/- The laws' own world: a field of a thing is set, in the heap and in memory. -/
namespace Go.Proofs.YtfogfafanfiffaaGreatDoor
open Go.RowKit

section
variable {w w' : World} {x q p b z j g c : Nat} {e : Int} {G : Geo} {M : Md} {N B : Nat} {blk : Nat → Nat} {fv : Nat → Value} {al : Value} {bad full : Bool} {K : Gk}
theorem own_types {t t' : TypeId} {s s' n n' : Nat} {v v' : Value} {cs cs' : List Value} (h : w.ownsRow B t s v n cs) (k : w.ownsRow B t' s' v' n' cs') (ht : t ≠ t') (hg : v'.ownBlock = some g) : v.ownBlock ≠ some g := fun e => by
  rcases h.2 with ⟨rfl, _⟩ | ⟨g1, c1, cur1, rfl, _, h1, _⟩
  · simp [Value.ownBlock] at e
  · rcases k.2 with ⟨rfl, _⟩ | ⟨g2, c2, cur2, rfl, _, h2, _⟩
    · simp [Value.ownBlock] at hg
    · have e1 : g1 = g := by simpa [Value.ownBlock] using e
      have e2 : g2 = g := by simpa [Value.ownBlock] using hg
      subst e1; subst e2
      have := h1.symm.trans h2
      simp at this
      exact ht this.2
/-- behind Ws.hset, the field's two cells are stored: the world is whole again -/
theorem Ws.put {K' : Gk} (s : Ws w x q p b e G M N B blk fv al bad full K') {v : V}
    (k : Lies w' x 42 (wcells q blk M.reg al bad full) ∧ Thw w' B blk fv M N ∧ OwnP w' B al ((List.range N).map blk) ∧ B ≤ w'.heap.size)
    (h : ∃ H R A D, Tr w' q p b G H ∧ Safe e G H R (M.setFld z j v) A D ∧ K.low N H R A D) (hz : z < N) (hj : j < M.len z) (hg : fv z = .slice (some ⟨g, 0, none⟩) (M.len z) c) (hv : v.Has (fun t => t < N)) :
    Ws ((w'.setCell ⟨g, j * 2, none⟩ (vw v)).setCell ⟨g, j * 2 + 1, none⟩ (vp blk v)) x q p b e G (M.setFld z j v) N B blk fv al bad full K := by
  obtain ⟨k1, k2, k3, k4⟩ := k
  obtain ⟨H, R, A, D, h, hs, hk⟩ := h
  have ho : (fv z).ownBlock = some g := by rw [hg]; rfl
  have hB := ((k2.rows z hz).lt g ho).1
  have := s.lq; have := s.lp; have := s.lb; have := s.lx
  have t : Turns (fun k => k = g) w' ((w'.setCell ⟨g, j * 2, none⟩ (vw v)).setCell ⟨g, j * 2 + 1, none⟩ (vp blk v)) :=
    ((Turns.refl (fun k => k = g) w').setCell (p := ⟨g, j * 2, none⟩) (fun _ => rfl) _).setCell (p := ⟨g, j * 2 + 1, none⟩) (fun _ => rfl) _
  exact ⟨k1.turns t (by omega), k2.put hz hj hg hv, k3.turns t (fun i hi ei => own_types k3 (k2.rows z hz) (by decide) ho (ei ▸ hi)),
    ⟨H, R, A, D, h.turns t (fun e => by omega) (fun e => by omega) (fun e => by omega) (fun e => by have := h.apart; omega), hs, hk⟩, s.lq, s.lp, s.lb, s.lx, s.apart, s.high, Nat.le_trans k4 t.size⟩
end
end Go.Proofs.YtfogfafanfiffaaGreatDoor
