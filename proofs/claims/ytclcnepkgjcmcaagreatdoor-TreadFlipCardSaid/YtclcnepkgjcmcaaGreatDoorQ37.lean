/- The laws' own world: a new thing in the heap. -/
import Derived.Test.YtclcnepkgjcmcaaGreatDoorQ32
namespace Go.Proofs.YtclcnepkgjcmcaaGreatDoor
open Go.RowKit

/-- no free cell of the size is left -/
def Gk.full (n : Nat) (K : Gk) : Gk := fun H R A D => K H R A D ∧ H.fre.at_ (cln n) = 0
/-- a cell is taken, for the thing z -/
def Gk.take (G : Geo) (M : Md) (f : Int) (n z : Nat) (K : Gk) : Gk := fun H' R' A' D' => ∃ e H R A D, K H R A D ∧ Safe e G H R M A D ∧ H.fre.at_ (cln n) ≠ 0 ∧ H' = H.alloc f 0 n ∧ R' = H.allocR R (cln n) ∧ A' = plus A z ∧ D' = plus D z
theorem Gk.full_low {K : Gk} {N n : Nat} {H : Hp} {R : Nat → List Int} {A D : Nat → Prop} (h : K.low N H R A D) (h0 : H.fre.at_ (cln n) = 0) : (K.full n).low N H R A D := ⟨⟨h.1, h0⟩, h.2⟩

/-- The world amid 'made': the heap holds M1, with the new thing N; memory holds M. -/
structure Wn (w : World) (x q p b : Nat) (e : Int) (G : Geo) (M M1 : Md) (N B : Nat) (blk : Nat → Nat) (fv : Nat → Value) (al : Value) (bad full : Bool) (K : Gk) : Prop where
  cells : Lies w x 42 (wcells q blk M.reg al bad full)
  things : Thw w B blk fv M N
  all : OwnP w B al ((List.range N).map blk)
  heap : ∃ H R A D, Tr w q p b G H ∧ Safe e G H R M1 A D ∧ K.low (N + 1) H R A D ∧ A N ∧ (H.mrk = true → Bk R (M1.cell N))
  lq : q < B
  lp : p < B
  lb : b < B
  lx : x < B
  apart : ¬ Own3 q p b x
  high : ∀ i, i < N → B ≤ blk i
  sz : B ≤ w.heap.size
/-- M1 is M, but for the thing N -/
structure Ext (M M1 : Md) (N : Nat) : Prop where
  form : ∀ i, i < N → M1.form i = M.form i
  len : ∀ i, i < N → M1.len i = M.len i
  fld : ∀ i, i < N → M1.fld i = M.fld i
  cell : ∀ i, i < N → M1.cell i = M.cell i
  reg : M1.reg = M.reg
theorem Ext.add (M : Md) (N : Nat) (f : Int) (n : Nat) (c : Int) : Ext M (M.add N f n c) N :=
  ⟨fun i hi => if_neg (by omega), fun i hi => if_neg (by omega), fun i hi => by funext k; exact if_neg (by omega), fun i hi => if_neg (by omega), rfl⟩
theorem Ext.setFld {M M1 : Md} {N : Nat} (h : Ext M M1 N) (j : Nat) (v : V) : Ext M (M1.setFld N j v) N :=
  ⟨h.form, h.len, fun i hi => by
    rw [← h.fld i hi]
    funext k
    exact if_neg (by omega), h.cell, h.reg⟩

section
variable {w w' : World} {x q p b z j : Nat} {e : Int} {G : Geo} {M M1 : Md} {N B : Nat} {blk : Nat → Nat} {fv : Nat → Value} {al : Value} {bad full : Bool} {K : Gk}
theorem Wn.not3 (s : Wn w x q p b e G M M1 N B blk fv al bad full K) {k : Nat} (hk : B ≤ k) : ¬ Own3 q p b k := fun h => by
  have := s.lq; have := s.lp; have := s.lb
  unfold Own3 at h
  omega
theorem Wn.quiet (s : Wn w x q p b e G M M1 N B blk fv al bad full K) (k : Turns (fun _ => False) w w') : Wn w' x q p b e G M M1 N B blk fv al bad full K := by
  obtain ⟨H, R, A, D, h, hs, hk⟩ := s.heap
  exact ⟨s.cells.turns k (fun h => h), s.things.quiet k, s.all.turns k (fun _ _ h => h), ⟨H, R, A, D, h.turns k (fun h => h) (fun h => h) (fun h => h) (fun h => h), hs, hk⟩, s.lq, s.lp, s.lb, s.lx, s.apart, s.high, Nat.le_trans s.sz k.size⟩
theorem Ws.alloc (s : Ws w x q p b e G M N B blk fv al bad full K) (f : Int) (n : Nat) (f0 : 1 ≤ f) (f1 : f ≤ 3) (n1 : n < 128) (hw : f = 3 → n = 2) (he : e + G.k ≤ 1000000000) :
    (Calls Tryz.prog 17 #[.pointer (some ⟨q, 0, none⟩), .int .i64 f, .int .i64 0, .int .i64 n] w fun r w' =>
      r = .returned (.tuple #[.int .u64 0, er 4]) ∧ Ws w' x q p b (e + G.k.toNat) G M N B blk fv al bad full ((Gk.incs G M K G.k.toNat).full n) ∧ Turns (Own3 q p b) w w') ∨
    (∃ c : Int, (∀ i, Reach M i → M.cell i ≠ c) ∧ Calls Tryz.prog 17 #[.pointer (some ⟨q, 0, none⟩), .int .i64 f, .int .i64 0, .int .i64 n] w fun r w' =>
      r = .returned (.tuple #[.int .u64 (8 * c + 1), .nilIface]) ∧
          Wn w' x q p b (e + G.k.toNat) G M (M.add N f n c) N B blk fv al bad full (Gk.take G M f n N (Gk.incs G M K G.k.toNat)) ∧ Turns (Own3 q p b) w w') := by
  obtain ⟨H, R, A, D, h, hs, hk⟩ := s.heap
  have hG := hs.inv.ok.2.2.2.2.2.2.2.2
  obtain ⟨A', D', hs', hk'⟩ := safe_incsK hs hk G.k.toNat (by omega)
  have hk2 := Gk.incs_low _ hk'
  by_cases hf : (H.incs G G.k.toNat).fre.at_ (cln n) = 0
  · refine .inl ((alloc_no hs.inv f 0 n f0 f1 (by omega) (by omega) (by omega) (by omega) (fun e => by have := hw e; omega) (by omega) hf w h).mono ?_)
    rintro r w' ⟨rfl, h1, ht⟩
    exact ⟨rfl, s.moved ht ⟨_, _, A', D', h1, hs', Gk.full_low hk2 hf⟩, ht⟩
  · have hz : ¬ D' N := fun h => by have := hk2.2 N h; omega
    obtain ⟨sa, ha, hbk⟩ := hs'.alloc hz (fun i hi j hj => V.Has.mono (fun t ht => by omega) (s.things.named i (hk2.2 i (hs'.ct.sub i hi)) j hj)) f0 f1 (t := 0) (by omega) (by omega) n1 hw hf
    have hc : (M.add N f n ((H.incs G G.k.toNat).firstFree (cln n))).cell N = (H.incs G G.k.toNat).firstFree (cln n) := if_pos rfl
    refine .inr ⟨(H.incs G G.k.toNat).firstFree (cln n), fun i hi => ha i (hs'.ct.sub i (hs'.reach hi)), (alloc_yes hs.inv f 0 n f0 f1 (by omega) (by omega) (by omega) (by omega) (fun e => by have := hw e; omega) (by omega) hf w h).mono ?_⟩
    rintro r w' ⟨rfl, h1, ht⟩
    refine ⟨rfl, ?_, ht⟩
    exact ⟨s.cells.turns ht s.apart, s.things.turns ht (fun i hi => s.not3 (s.high i hi)) (fun i hi g hg => s.not3 ((s.things.rows i hi).lt g hg).1), s.all.turns ht (fun g hg => s.not3 (s.all.lt g hg).1),
      ⟨_, _, plus A' N, plus D' N, h1, sa, ⟨⟨_, _, _, A', D', hk2.1, hs', hf, rfl, rfl, rfl, rfl⟩, fun i hi => hi.elim (fun h => by have := hk2.2 i h; omega) (fun h => by omega)⟩, .inr rfl, fun _ => by rw [hc]; exact hbk⟩,
      s.lq, s.lp, s.lb, s.lx, s.apart, s.high, Nat.le_trans s.sz ht.size⟩
/-- what memory's things reach is held -/
theorem Thw.held (T : Thw w B blk fv M N) (hx : Ext M M1 N) {A : Nat → Prop} (hc : Closed M1 A) {i : Nat} (h : Reach M i) : A i := by
  have both : ∀ {v : V}, v.Has A → v.Has (fun t => t < N) → v.Has (fun t => A t ∧ t < N) := fun {v} a c => by
    cases v with
    | w _ => trivial
    | t _ => exact ⟨a, c⟩
  refine (h (fun t => A t ∧ t < N) ⟨fun r hr => both (hx.reg ▸ hc.reg r hr) (T.regs r hr), fun t ht hf j hj => ?_, fun t ht hf h0 => ?_⟩).1
  · have := hc.plain t ht.1 (by rw [hx.form t ht.2]; exact hf) j (by rw [hx.len t ht.2]; exact hj)
    rw [hx.fld t ht.2] at this
    exact both this (T.named t ht.2 j hj)
  · have := hc.weak t ht.1 (by rw [hx.form t ht.2]; exact hf) (by rw [hx.fld t ht.2]; exact V.Has.mono (fun _ h => h.1) h0)
    rw [hx.fld t ht.2] at this
    exact both this (T.named t ht.2 1 (by rw [T.len3 t ht.2 hf]; omega))
/-- the barrier at a weak thing -/
theorem Safe.setFB {H : Hp} {R : Nat → List Int} {A D : Nat → Prop} (s : Safe e G H R M A D) (hz : A z) (h3 : M.form z = 3) {v : V} (hv : v.ok) (hA : v.Has A) :
    (H.setF G (M.cell z) j (v.wd M.cell)).mrk = H.mrk ∧ ∀ y, Bk R y → Bk (H.setFR G R (M.cell z) j (v.wd M.cell)) y := by
  have em := (s.ct.mark z hz).1
  have e1 : ¬ mform (gv H.ws (M.cell z)) = 1 := by omega
  have e3 : mform (gv H.ws (M.cell z)) = 3 := by omega
  obtain ⟨-, m2, -, b2, -, -⟩ := s.shade hv hA
  simp only [Hp.setF, Hp.setFR, Hp.guard, Hp.guardR, if_neg e1, if_pos e3]
  split
  · exact ⟨m2, fun y hy => (b2 y).2 hy⟩
  · exact ⟨rfl, fun y hy => hy⟩
/-- a field of the new thing, a weak one, is set in the heap -/
theorem Wn.hset (s : Wn w x q p b e G M M1 N B blk fv al bad full K) (hx : Ext M M1 N) (hf : M1.form N = 3) (hl : M1.len N = 2) (h0 : (M1.fld N 0).Has (Reach M)) (h1 : (M1.fld N 1).Has (Reach M)) (hj : j < 2) (hj0 : j = 0 → M1.fld N 0 = .w 12) {v : V} (hv : v.ok) (hR : v.Has (Reach M)) (hcl : v.wd M.cell = v.wd M1.cell) :
    Calls Tryz.prog 29 #[.pointer (some ⟨q, 0, none⟩), .int .u64 (8 * M1.cell N + 1), .int .i64 (j : Int), .int .u64 (v.wd M.cell)] w fun o w' => o = .returned .nilIface ∧ Wn w' x q p b e G M (M1.setFld N j v) N B blk fv al bad full K.quiet ∧ Turns (Own3 q p b) w w' := by
  obtain ⟨H, R, A, D, h, hs, hk, hN, hb⟩ := s.heap
  have hRA : ∀ i, Reach M i → A i := fun i hi => s.things.held hx hs.ct.closed hi
  have hvA : v.Has A := V.Has.mono hRA hR
  obtain ⟨v0, v1, hm⟩ := hs.may hv hvA
  obtain ⟨kk, h4, hk13, hxk⟩ := hs.ring hN
  obtain ⟨-, e1, e2, -⟩ := hs.sees hN
  obtain ⟨w0, -, -⟩ := hs.whole hN hf (V.Has.mono hRA h0)
  rw [hcl]
  refine (Set_yes hs.inv (M1.cell N) h4 hk13 hxk (j : Int) (v.wd M1.cell) (by omega) (by omega) v0 v1 (.inr (.inr ⟨by omega, hm, fun ej => ?_⟩)) w h).mono ?_
  · have : j = 0 := by omega
    subst this
    rw [show M1.cell N + 3 + ((0 : Nat) : Int) = M1.cell N + 3 by omega, w0, hj0 rfl]
    rfl
  rintro o w' ⟨rfl, h2, ht⟩
  obtain ⟨m1, m2⟩ := hs.setFB (j := j) hN hf hv hvA
  refine ⟨rfl, ⟨s.cells.turns ht s.apart, s.things.turns ht (fun i hi => s.not3 (s.high i hi)) (fun i hi g hg => s.not3 ((s.things.rows i hi).lt g hg).1), s.all.turns ht (fun g hg => s.not3 (s.all.lt g hg).1),
    ⟨_, _, A, D, h2, hs.setF hN (by omega) hv hvA (.inr ⟨hf, hb, V.Has.mono hRA h0, V.Has.mono hRA h1⟩), Gk.quiet_low (hs.setFK hk hv hvA), hN, fun hm1 => m2 _ (hb (by rw [m1] at hm1; exact hm1))⟩,
    s.lq, s.lp, s.lb, s.lx, s.apart, s.high, Nat.le_trans s.sz ht.size⟩, ht⟩
end
end Go.Proofs.YtclcnepkgjcmcaaGreatDoor
