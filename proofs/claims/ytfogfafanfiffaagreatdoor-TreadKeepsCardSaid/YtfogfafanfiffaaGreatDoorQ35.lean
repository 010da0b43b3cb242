/- The laws' own world: do, what all its kinds need. -/
import Derived.Test.YtfogfafanfiffaaGreatDoorQ34
import Derived.Test.YtfogfafanfiffaaGreatDoorQ29
namespace Go.Proofs.YtfogfafanfiffaaGreatDoor
open Go.RowKit

theorem quiet_do {P : Program} {f : FuncId} {args : Array Value} {w : World} {n : Nat} {v : Value}
    (h : Calls P f args (w.drewN n) fun e w' => e = .returned v ∧ w.drewN n = w') : Calls P f args (w.drewN n) fun e w'' => e = .returned v ∧ ∃ m, w'' = w.drewN m :=
  h.mono fun _ _ ⟨he, hm⟩ => ⟨he, n, hm.symm⟩
theorem u_low (n : Int) : 0 ≤ n % 18446744073709551616 % 8 ∧ n % 18446744073709551616 % 8 < 8 := ⟨Int.emod_nonneg _ (by omega), Int.emod_lt_of_pos _ (by omega)⟩

/-- what do may turn: the law's world, the heap, and the rows that lie from B on -/
def DoT (x q p b B : Nat) (k : Nat) : Prop := (k = x ∨ Own3 q p b k) ∨ B ≤ k
theorem fix_ok (n : Int) : (V.w (WM.mk 0 n)).ok := by
  have e : WM.mk 0 n % 8 = 0 := by unfold WM.mk; omega
  refine ⟨by unfold WM.mk; omega, by unfold WM.mk; omega, ?_⟩
  unfold WM.kd
  rw [e]
  split
  · unfold WM.kt; simp
  · omega
/-- a register's number -/
def rgn (n : Int) : Nat := (n % 18446744073709551616 % 8).toNat
theorem rgn_eq (n : Int) : n % 18446744073709551616 % 8 = (rgn n : Int) ∧ rgn n < 8 := by unfold rgn; omega
theorem wcells_at (q : Nat) (blk : Nat → Nat) (reg : Nat → V) (al : Value) (bad full : Bool) (r : Nat) (hr : r < 8) :
    (wcells q blk reg al bad full)[1 + r * 2]? = some (vw (reg r)) ∧ (wcells q blk reg al bad full)[1 + r * 2 + 1]? = some (vp blk (reg r)) := by
  rcases (show r = 0 ∨ r = 1 ∨ r = 2 ∨ r = 3 ∨ r = 4 ∨ r = 5 ∨ r = 6 ∨ r = 7 by omega) with rfl | rfl | rfl | rfl | rfl | rfl | rfl | rfl <;> exact ⟨rfl, rfl⟩
theorem Ws.regok {w : World} {x q p b : Nat} {e : Int} {G : Geo} {M : Md} {N B : Nat} {blk : Nat → Nat} {fv : Nat → Value} {al : Value} {bad full : Bool} {K : Gk} (s : Ws w x q p b e G M N B blk fv al bad full K) {r : Nat} (hr : r < 8) : (M.reg r).ok ∧ (M.reg r).Has (Reach M) := by
  obtain ⟨H, R, A, D, h, hs, hk⟩ := s.heap
  exact ⟨hs.ct.goodr r hr, (Reach.closed M).reg r hr⟩
/-- a register is the field of what another one names -/
def Md.get3 (M : Md) (ra rb : Nat) (n : Int) : Md :=
  match M.reg rb with
  | .w _ => M
  | .t z => if M.form z = 1 ∧ 0 < M.len z then M.setReg ra (M.fld z (n % 18446744073709551616 % (M.len z : Int)).toNat) else M
/-- the field of what a register names is what another one is -/
def Md.put4 (M : Md) (ra rb : Nat) (n : Int) : Md :=
  match M.reg ra with
  | .w _ => M
  | .t z => if M.form z = 1 ∧ 0 < M.len z then M.setFld z (n % 18446744073709551616 % (M.len z : Int)).toNat (M.reg rb) else M
theorem u_mod (n : Int) {l : Nat} (h : 0 < l) (hl : l ≤ 9223372036854775807) : wrap64 ((IntKind.u64.wrap n).tmod l) = ((n % 18446744073709551616 % (l : Int)).toNat : Int) := by
  have a := Int.emod_nonneg (n % 18446744073709551616) (show (l : Int) ≠ 0 by omega)
  have c := Int.emod_lt_of_pos (n % 18446744073709551616) (show (0 : Int) < l by omega)
  rw [IntKind.wrap_u64, Int.tmod_eq_emod_of_nonneg (by omega)]
  unfold wrap64
  omega
theorem u_modl (n : Int) {l : Nat} (h : 0 < l) : (n % 18446744073709551616 % (l : Int)).toNat < l := by
  have a := Int.emod_nonneg (n % 18446744073709551616) (show (l : Int) ≠ 0 by omega)
  have c := Int.emod_lt_of_pos (n % 18446744073709551616) (show (0 : Int) < l by omega)
  omega
theorem Ws.fldok {w : World} {x q p b : Nat} {e : Int} {G : Geo} {M : Md} {N B : Nat} {blk : Nat → Nat} {fv : Nat → Value} {al : Value} {bad full : Bool} {K : Gk} (s : Ws w x q p b e G M N B blk fv al bad full K) {z j : Nat} (hz : Reach M z) (hf : M.form z = 1) (hj : j < M.len z) : (M.fld z j).ok ∧ (M.fld z j).Has (Reach M) := by
  obtain ⟨H, R, A, D, h, hs, hk⟩ := s.heap
  exact ⟨hs.ct.goodf z (hs.reach hz) (by omega) j hj, (Reach.closed M).plain z hz hf j hj⟩
/-- 'bad' is stored -/
theorem Ws.setBad {w : World} {x q p b : Nat} {e : Int} {G : Geo} {M : Md} {N B : Nat} {blk : Nat → Nat} {fv : Nat → Value} {al : Value} {bad full : Bool} {K : Gk} (s : Ws w x q p b e G M N B blk fv al bad full K) (hxg : x ≠ 0) (c : Bool) : Ws (w.setCell ⟨x, 18, none⟩ (.bool c)) x q p b e G M N B blk fv al c full K := by
  obtain ⟨H, R, A, D, h, hs, hk⟩ := s.heap
  have t : Turns (fun k => k = x) w (w.setCell ⟨x, 18, none⟩ (.bool c)) := (Turns.refl (fun k => k = x) w).setCell (p := ⟨x, 18, none⟩) (fun _ => rfl) _
  have := s.lq; have := s.lp; have := s.lb; have hx := s.lx; have ap := s.apart
  refine ⟨?_, s.things.turns t (fun i hi e => by have := s.high i hi; omega) (fun i hi g hg e => by have := ((s.things.rows i hi).lt g hg).1; omega), s.all.turns t (fun g hg e => by have := (s.all.lt g hg).1; omega), ⟨H, R, A, D, h.turns t (fun e => ap (e ▸ .inl rfl)) (fun e => ap (e ▸ .inr (.inl rfl))) (fun e => ap (e ▸ .inr (.inr rfl))) (fun e => hxg e.symm), hs, hk⟩, s.lq, s.lp, s.lb, s.lx, s.apart, s.high, Nat.le_trans s.sz t.size⟩
  exact s.cells.stored 18 _
/-- a field's cells, and where they lie -/
theorem Thw.at_ {w : World} {B N z j g l c : Nat} {blk : Nat → Nat} {fv : Nat → Value} {M : Md} (T : Thw w B blk fv M N) (hz : z < N) (hj : j < M.len z) (hg : fv z = .slice (some ⟨g, 0, none⟩) l c) :
    w.cell? ⟨g, j * 2, none⟩ = some (vw (M.fld z j)) ∧ w.cell? ⟨g, j * 2 + 1, none⟩ = some (vp blk (M.fld z j)) ∧ w.cell? ⟨blk z, 1, none⟩ = some (.slice (some ⟨g, 0, none⟩) l c) ∧ B ≤ g := by
  obtain ⟨A, c', e, h⟩ := (T.rows z hz).read
  obtain ⟨g', rfl, -, h1, h2⟩ := h j hj
  have e2 := hg.symm.trans e
  injection e2 with e3 e4 e5
  injection e3 with e3
  injection e3 with e3
  subst e3
  exact ⟨h1, h2, ((T.here z hz).cell 1).trans (by rw [← hg]; rfl), ((T.rows z hz).lt g (by rw [hg]; rfl)).1⟩
/-- a field's cells can be stored into -/
theorem Thw.free {w : World} {B N z g l c : Nat} {blk : Nat → Nat} {fv : Nat → Value} {M : Md} (T : Thw w B blk fv M N) (hz : z < N) (hg : fv z = .slice (some ⟨g, 0, none⟩) l c) (i : Nat) : w.frozen? ⟨g, i, none⟩ = false := by
  have h := T.rows z hz
  rw [hg] at h
  rcases h.2 with ⟨e, _⟩ | ⟨g', c', cur, e, hb, hh, -⟩
  · cases e
  · injection e with e1
    injection e1 with e1
    injection e1 with e1
    subst e1
    have : Lies w g 38 cur.toList := by
      unfold Lies
      rw [hh]
    exact this.free i
/-- what Ws.hset leaves, with 'bad' stored as it was -/
theorem Ws.hbad {w w' : World} {x q p b : Nat} {e : Int} {G : Geo} {M M' : Md} {N B : Nat} {blk : Nat → Nat} {fv : Nat → Value} {al : Value} {bad full : Bool} {K K' : Gk} (s : Ws w x q p b e G M N B blk fv al bad full K) (hxg : x ≠ 0)
    (k : Lies w' x 42 (wcells q blk M.reg al bad full) ∧ Thw w' B blk fv M N ∧ OwnP w' B al ((List.range N).map blk) ∧ B ≤ w'.heap.size)
    (h : ∃ H R A D, Tr w' q p b G H ∧ Safe e G H R M' A D ∧ K' H R A D) :
    (Lies (w'.setCell ⟨x, 18, none⟩ (.bool bad)) x 42 (wcells q blk M.reg al bad full) ∧ Thw (w'.setCell ⟨x, 18, none⟩ (.bool bad)) B blk fv M N ∧ OwnP (w'.setCell ⟨x, 18, none⟩ (.bool bad)) B al ((List.range N).map blk) ∧ B ≤ (w'.setCell ⟨x, 18, none⟩ (.bool bad)).heap.size) ∧
    (∃ H R A D, Tr (w'.setCell ⟨x, 18, none⟩ (.bool bad)) q p b G H ∧ Safe e G H R M' A D ∧ K' H R A D) := by
  obtain ⟨k1, k2, k3, k4⟩ := k
  obtain ⟨H, R, A, D, h, hs, hk⟩ := h
  have t : Turns (fun k => k = x) w' (w'.setCell ⟨x, 18, none⟩ (.bool bad)) := (Turns.refl (fun k => k = x) w').setCell (p := ⟨x, 18, none⟩) (fun _ => rfl) _
  have := s.lq; have := s.lp; have := s.lb; have hx := s.lx; have ap := s.apart
  exact ⟨⟨k1.stored 18 _, k2.turns t (fun i hi e => by have := s.high i hi; omega) (fun i hi g hg e => by have := ((k2.rows i hi).lt g hg).1; omega), k3.turns t (fun g hg e => by have := (k3.lt g hg).1; omega), Nat.le_trans k4 t.size⟩,
    ⟨H, R, A, D, h.turns t (fun e => ap (e ▸ .inl rfl)) (fun e => ap (e ▸ .inr (.inl rfl))) (fun e => ap (e ▸ .inr (.inr rfl))) (fun e => hxg e.symm), hs, hk⟩⟩
end Go.Proofs.YtfogfafanfiffaaGreatDoor
