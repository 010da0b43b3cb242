/- Things with tags in a heap without weak ones, in a world, and the calls of layer 6 that speak of one object. -/
import Derived.Test.YtagedholocgahaaGreatDoorTSafeH
import Derived.Test.YtagedholocgahaaGreatDoorTHeapL
import Derived.Test.YtagedholocgahaaGreatDoorTHeapN
import Derived.WalkLawsBesides
import Derived.Deep.RegionWith
import Derived.Test.YtagedholocgahaaGreatDoorWords
namespace Go.Proofs.YtagedholocgahaaGreatDoor
open Go.RowKit

/-- N things were made, none of them weak; tg: their tags. -/
structure Ob (B : Int) (G : Geo) (H : Hp) (R : Nat → List Int) (M : Md) (A D : Nat → Prop) (tg : Nat → Int) (N : Nat) : Prop where
  safe : Safe B G H R M A D
  tag : ∀ i, A i → mtag (gv H.ws (M.cell i)) = tg i
  few : ∀ i, D i → i < N
  soft : ∀ i, A i → M.form i = 1 ∨ M.form i = 2
  raw : ∀ i, A i → M.form i = 2 → ∀ j, j < M.len i → ∃ x, M.fld i j = .w x ∧ 0 ≤ x ∧ x < 18446744073709551616
  room : ∀ c, c < 4 → G.n.at_ c ≤ H.fre.at_ c + N
  regs : ∀ r, r < 8 → (M.reg r).Has (fun t => t < N)

def tgs (tg : Nat → Int) (z : Nat) (t : Int) : Nat → Int := fun i => if i = z then t else tg i

section
variable {M : Md} {A D : Nat → Prop} {R : Nat → List Int} {B : Int} {G : Geo} {H : Hp} {tg : Nat → Int} {N z j : Nat}

theorem ob_fresh (g : G.ok) (tg : Nat → Int) : Ob 0 G G.fresh (G.layR 4 0) Md.none (fun _ => False) (fun _ => False) tg 0 :=
  ⟨safe_fresh g, fun _ h => h.elim, fun _ h => h.elim, fun _ h => h.elim, fun _ h => h.elim, fun c hc => by
    show G.n.at_ c ≤ G.n.at_ c + ((0 : Nat) : Int)
    omega, fun _ _ => trivial⟩

theorem Ob.soft3 (s : Ob B G H R M A D tg N) : ∀ i, A i → M.form i ≠ 3 := fun i hi => by
  have := s.soft i hi
  omega
theorem Ob.new (s : Ob B G H R M A D tg N) : ¬ D N := fun h => absurd (s.few N h) (by omega)
theorem Ob.names (s : Ob B G H R M A D tg N) : ∀ i, A i → ∀ j, j < M.len i → (M.fld i j).Has (fun t => t < N) := fun i hi j hj => by
  rcases s.soft i hi with h1 | h2
  · exact V.Has.mono (fun t ht => s.few t (s.safe.ct.sub t ht)) (s.safe.ct.closed.plain i hi h1 j hj)
  · obtain ⟨x, e, -⟩ := s.raw i hi h2 j hj
    rw [e]
    trivial
theorem Ob.tags (s : Ob B G H R M A D tg N) {H' : Hp} (d : Dat G H.ws H'.ws) : ∀ i, A i → mtag (gv H'.ws (M.cell i)) = tg i := fun i hi => by
  obtain ⟨-, e, -⟩ := form_shp (d.shp _ (s.safe.ct.place i (s.safe.ct.sub i hi)))
  rw [e]
  exact s.tag i hi

/-- increments -/
theorem Ob.incs (s : Ob B G H R M A D tg N) (n : Nat) (hB : B + n ≤ 1000000000) : ∃ A' D', Ob (B + n) G (H.incs G n) (H.incsR G R n) M A' D' tg N ∧ ∀ i, A' i → A i := by
  obtain ⟨A', D', s1, h1, h2, d, f⟩ := s.safe.incs_soft s.soft3 n hB
  exact ⟨A', D', ⟨s1, fun i hi => s.tags d i (h1 i hi), fun i hi => s.few i (h2 i hi), fun i hi => s.soft i (h1 i hi), fun i hi => s.raw i (h1 i hi), fun c hc => by
    have := f c hc
    have := s.room c hc
    omega, s.regs⟩, h1⟩

/-- a new thing -/
theorem Ob.alloc (s : Ob B G H R M A D tg N) {f t : Int} {n : Nat} (f0 : 1 ≤ f) (f1 : f ≤ 2) (t0 : 0 ≤ t) (t1 : t < 16) (n1 : n < 128) (h : H.fre.at_ (cln n) ≠ 0) :
    Ob B G (H.alloc f t n) (H.allocR R (cln n)) (M.add N f n (H.firstFree (cln n))) (plus A N) (plus D N) (tgs tg N t) (N + 1) := by
  have i := s.safe.inv
  obtain ⟨s1, hne, -⟩ := s.safe.alloc s.new (fun y hy k hk => V.Has.mono (fun t ht => by omega) (s.names y hy k hk)) f0 (by omega) t0 t1 n1 (fun e => by omega) h
  obtain ⟨hb, hC, hcl, hm, hbl, hdt, hmk⟩ := alloc_words i f0 (by omega) t0 t1 (n := (n : Int)) (by omega) (by omega) (fun e => by omega) h
  have lt : ∀ y, A y → y < N := fun y hy => s.few y (s.safe.ct.sub y hy)
  refine ⟨s1, fun y hy => ?_, fun y hy => ?_, fun y hy => ?_, fun y hy h2 k hk => ?_, fun c hc => ?_, fun r hr => V.Has.mono (fun t ht => by omega) (s.regs r hr)⟩
  · show mtag (gv _ (if y = N then _ else M.cell y)) = if y = N then t else tg y
    rcases hy with hy | rfl
    · have := lt y hy
      rw [if_neg (by omega), if_neg (by omega), hmk _ (s.safe.ct.place y (s.safe.ct.sub y hy)) (hne y (s.safe.ct.sub y hy))]
      exact s.tag y hy
    · rw [if_pos rfl, if_pos rfl, hm, mtag_with, mshape_tag (by omega) (by omega) t0 t1]
  · rcases hy with hy | rfl
    · have := s.few y hy
      omega
    · omega
  · show (if y = N then f else M.form y) = 1 ∨ (if y = N then f else M.form y) = 2
    rcases hy with hy | rfl
    · have := lt y hy
      rw [if_neg (by omega)]
      exact s.soft y hy
    · rw [if_pos rfl]
      omega
  · show ∃ x, (if y = N then V.w (blank f) else M.fld y k) = .w x ∧ _
    have h2' : (if y = N then f else M.form y) = 2 := h2
    have hk' : k < (if y = N then n else M.len y) := hk
    rcases hy with hy | rfl
    · have := lt y hy
      rw [if_neg (by omega)] at h2' hk' ⊢
      exact s.raw y hy h2' k hk'
    · rw [if_pos rfl]
      refine ⟨_, rfl, ?_⟩
      unfold blank
      split <;> omega
  · have := s.room c hc
    show G.n.at_ c ≤ (H.fre.put (cln n) (H.fre.at_ (cln n) - 1)).at_ c + ((N + 1 : Nat) : Int)
    rw [Q4.at_put _ (cln_lt _) hc]
    split
    · next e =>
      rw [← e]
      omega
    · omega

theorem guard_fre (i : Inv B G H R) (m : Int) {old v : Int} (o0 : 0 ≤ old) (o1 : old < 18446744073709551616) (v0 : 0 ≤ v) (v1 : v < 18446744073709551616) : (H.guard G m old v).fre = H.fre := by
  obtain ⟨i1, -⟩ := inv_shade i o0 o1
  obtain ⟨-, -, -, -, -, -, -, -, f1⟩ := shade_facts i o0 o1
  obtain ⟨-, -, -, -, -, -, -, -, f2⟩ := shade_facts i1 v0 v1
  obtain ⟨-, -, -, -, -, -, -, -, f3⟩ := shade_facts i v0 v1
  unfold Hp.guard
  split
  · split
    · exact f2.trans f1
    · exact f1
  · split
    · split
      · exact f3
      · rfl
    · rfl
theorem data_mark (_ : Inv B G H R) {j : Int} (hj : G.data j) {x : Int} (hx : G.C x) (v : Int) : gv (sv H.ws j v) x = gv H.ws x := by
  cases hin : inside H.ws.length j
  · rw [sv, hin]
    rfl
  · rw [gv_sv v x hin, if_neg fun e => (hj x (.inr hx)).1 e.symm]

/-- a plain thing's field is set -/
theorem Ob.setF (s : Ob B G H R M A D tg N) (hz : A z) (hj : j < M.len z) (h1 : M.form z = 1) {v : V} (hv : v.ok) (hA : v.Has A) :
    Ob B G (H.setF G (M.cell z) j (v.wd M.cell)) (H.setFR G R (M.cell z) j (v.wd M.cell)) (M.setFld z j v) A D tg N := by
  have s1 := s.safe.setF hz hj hv hA (.inl h1)
  obtain ⟨v0, v1, -⟩ := s.safe.ct.wd s.safe.inv.ok hv (V.Has.mono s.safe.ct.sub hA)
  have hr := s.safe.inv.wrd (M.cell z + 3 + j)
  obtain ⟨ii, d⟩ := inv_guard s.safe.inv (gv H.ws (M.cell z)) hr.1 hr.2 v0 v1
  have hf := guard_fre s.safe.inv (gv H.ws (M.cell z)) hr.1 hr.2 v0 v1
  have hC := s.safe.ct.place z (s.safe.ct.sub z hz)
  have hdat := Geo.ok.field s.safe.inv.ok hC (i := (j : Int)) (by omega) (by have := s.safe.ct.room z hz; omega)
  refine ⟨s1, fun i hi => ?_, s.few, s.soft, fun i hi h2 k hk => ?_, fun c hc => ?_, s.regs⟩
  · rw [show gv (H.setF G (M.cell z) j (v.wd M.cell)).ws ((M.setFld z j v).cell i) = gv (H.guard G (gv H.ws (M.cell z)) (gv H.ws (M.cell z + 3 + j)) (v.wd M.cell)).ws (M.cell i) from data_mark ii hdat (s.safe.ct.place i (s.safe.ct.sub i hi)) _]
    exact s.tags d i hi
  · obtain ⟨x, e, hx⟩ := s.raw i hi h2 k hk
    refine ⟨x, ?_, hx⟩
    show (if i = z ∧ k = j then v else M.fld i k) = _
    rw [if_neg (fun h => by
      have h2' : M.form i = 2 := h2
      rw [h.1] at h2'
      omega)]
    exact e
  · show G.n.at_ c ≤ (H.guard G (gv H.ws (M.cell z)) (gv H.ws (M.cell z + 3 + j)) (v.wd M.cell)).fre.at_ c + N
    rw [hf]
    exact s.room c hc

/-- a raw thing's field is set -/
theorem Ob.setRaw (s : Ob B G H R M A D tg N) (hz : A z) (hj : j < M.len z) (h2 : M.form z = 2) {x : Int} (x0 : 0 ≤ x) (x1 : x < 18446744073709551616) :
    Ob B G (H.setF G (M.cell z) j x) (H.setFR G R (M.cell z) j x) (M.setFld z j (.w x)) A D tg N := by
  obtain ⟨s1, e1⟩ := s.safe.setRaw hz hj h2 x0 x1
  have hC := s.safe.ct.place z (s.safe.ct.sub z hz)
  have hdat := Geo.ok.field s.safe.inv.ok hC (i := (j : Int)) (by omega) (by have := s.safe.ct.room z hz; omega)
  refine ⟨s1, fun i hi => ?_, s.few, s.soft, fun i hi h2 k hk => ?_, fun c hc => ?_, s.regs⟩
  · rw [e1, show gv (Hp.ws { H with ws := sv H.ws (M.cell z + 3 + j) x }) ((M.setFld z j (.w x)).cell i) = gv H.ws (M.cell i) from data_mark s.safe.inv hdat (s.safe.ct.place i (s.safe.ct.sub i hi)) _]
    exact s.tag i hi
  · show ∃ y, (if i = z ∧ k = j then V.w x else M.fld i k) = _ ∧ _
    split
    · exact ⟨x, rfl, x0, x1⟩
    · exact s.raw i hi h2 k hk
  · rw [e1]
    exact s.room c hc

/-- a register is set -/
theorem Ob.setRoot (s : Ob B G H R M A D tg N) {r : Nat} (hr : r < 8) {v : V} (hv : v.ok) (hA : v.Has A) : Ob B G (H.setRoot G r (v.wd M.cell)) (H.shadeR G R (v.wd M.cell)) (M.setReg r v) A D tg N := by
  have s1 := s.safe.setRoot hr hv hA
  obtain ⟨v0, v1, -⟩ := s.safe.ct.wd s.safe.inv.ok hv (V.Has.mono s.safe.ct.sub hA)
  obtain ⟨i1, d1, -⟩ := inv_shade s.safe.inv v0 v1
  obtain ⟨-, -, -, -, -, -, -, -, f1⟩ := shade_facts s.safe.inv v0 v1
  refine ⟨s1, fun i hi => ?_, s.few, s.soft, s.raw, fun c hc => ?_, fun k hk => ?_⟩
  · rw [show gv (H.setRoot G r (v.wd M.cell)).ws ((M.setReg r v).cell i) = gv (H.shade G (v.wd M.cell)).ws (M.cell i) from data_mark i1 (s.safe.inv.ok.register (by omega) (by omega)) (s.safe.ct.place i (s.safe.ct.sub i hi)) _]
    exact s.tags d1 i hi
  · show G.n.at_ c ≤ (H.shade G (v.wd M.cell)).fre.at_ c + N
    rw [f1]
    exact s.room c hc
  · show V.Has _ (if k = r then v else M.reg k)
    split
    · exact V.Has.mono (fun t ht => s.few t (s.safe.ct.sub t ht)) hA
    · exact s.regs k hk
end
end Go.Proofs.YtagedholocgahaaGreatDoor

namespace Go.Proofs.YtagedholocgahaaGreatDoor
open Go.RowKit

/-- In the world w the heap (blocks q, p, b) holds the things M; those of K are had. -/
def Os (w : World) (q p b : Nat) (B : Int) (G : Geo) (M : Md) (tg : Nat → Int) (N : Nat) (K : Nat → Prop) : Prop :=
  ∃ H R A D, Tr w q p b G H ∧ Ob B G H R M A D tg N ∧ ∀ i, K i → A i

section
variable {w w' : World} {q p b : Nat} {B : Int} {G : Geo} {M : Md} {tg : Nat → Int} {N : Nat} {K K' X : Nat → Prop} {z j : Nat}

theorem Os.turns (s : Os w q p b B G M tg N K) (k : Turns X w w') (hq : ¬ X q) (hp : ¬ X p) (hb : ¬ X b) (hg : ¬ X 0) : Os w' q p b B G M tg N K := by
  obtain ⟨H, R, A, D, h, o, hk⟩ := s
  exact ⟨H, R, A, D, h.turns k hq hp hb hg, o, hk⟩
theorem Os.quiet (s : Os w q p b B G M tg N K) (k : Turns (fun _ => False) w w') : Os w' q p b B G M tg N K := s.turns k (fun h => h) (fun h => h) (fun h => h) (fun h => h)
theorem Os.drew (s : Os w q p b B G M tg N K) : Os w.drew q p b B G M tg N K := by
  obtain ⟨H, R, A, D, h, o, hk⟩ := s
  exact ⟨H, R, A, D, h.drew, o, hk⟩
theorem Os.drewN (s : Os w q p b B G M tg N K) (n : Nat) : Os (w.drewN n) q p b B G M tg N K := by
  obtain ⟨H, R, A, D, h, o, hk⟩ := s
  exact ⟨H, R, A, D, h.drewN n, o, hk⟩
theorem Os.alloc (s : Os w q p b B G M tg N K) (o : Obj) : Os (w.alloc o) q p b B G M tg N K := s.quiet ((Turns.refl _ _).alloc o)
theorem Os.tab (s : Os w q p b B G M tg N K) : Tab w := by
  obtain ⟨H, R, A, D, h, -⟩ := s
  exact h.tab
theorem Os.lt (s : Os w q p b B G M tg N K) : q < w.heap.size ∧ p < w.heap.size ∧ b < w.heap.size := by
  obtain ⟨H, R, A, D, h, -⟩ := s
  exact h.lt
theorem Os.ok (s : Os w q p b B G M tg N K) : G.ok := by
  obtain ⟨H, R, A, D, h, o, -⟩ := s
  exact o.safe.inv.ok
theorem Os.fewer (s : Os w q p b B G M tg N K) (h : ∀ i, K' i → K i ∨ Reach M i) : Os w q p b B G M tg N K' := by
  obtain ⟨H, R, A, D, h1, o, hk⟩ := s
  exact ⟨H, R, A, D, h1, o, fun i hi => (h i hi).elim (hk i) (fun h => o.safe.reach h)⟩
/-- the word of a value of which nothing is lost -/
theorem Os.word (s : Os w q p b B G M tg N K) {v : V} (hv : v.ok) (hK : v.Has K) : 0 ≤ v.wd M.cell ∧ v.wd M.cell < 18446744073709551616 ∧ G.may (v.wd M.cell) = true := by
  obtain ⟨H, R, A, D, h, o, hk⟩ := s
  obtain ⟨v0, v1, hp⟩ := o.safe.ct.wd o.safe.inv.ok hv (V.Has.mono (fun i hi => o.safe.ct.sub i (hk i hi)) hK)
  refine ⟨v0, v1, ?_⟩
  rcases hp with ⟨x, e, -⟩ | ⟨t, e, -, e2⟩
  · subst e
    have h2 : WM.kd x ≠ 2 := hv.2.2
    have : (WM.kd x != 2) = true := by simpa using h2
    show (_ || (WM.kd x != 2)) = true
    rw [this, Bool.or_true]
  · rw [Geo.may, e2]
    rfl
/-- the place of a thing that is had -/
theorem Os.place (s : Os w q p b B G M tg N K) (hz : K z) : G.C (M.cell z) := by
  obtain ⟨H, R, A, D, h, o, hk⟩ := s
  exact o.safe.ct.place z (o.safe.ct.sub z (hk z hz))
theorem Os.cellW (s : Os w q p b B G M tg N K) (hz : K z) : 0 ≤ 8 * M.cell z + 1 ∧ 8 * M.cell z + 1 < 18446744073709551616 := by
  have g := s.ok
  have h := Geo.extent g (s.place hz)
  have := ln_lo (G.cls (M.cell z))
  have := g.lines
  omega

theorem Os.incs (s : Os w q p b B G M tg N K) (n : Int) (hn : n ≤ 1000000000) (hB : B + n.toNat ≤ 1000000000) :
    Calls Tryz.prog 16 #[.pointer (some ⟨q, 0, none⟩), .int .i64 n] w fun e w' => e = .returned (.tuple #[]) ∧ Os w' q p b (B + n.toNat) G M tg N (Reach M) ∧ Turns (Own3 q p b) w w' := by
  obtain ⟨H, R, A, D, h, o, hk⟩ := s
  refine (incs_any o.safe.inv n hn hB w h).mono ?_
  rintro e w' ⟨rfl, h1, ht⟩
  obtain ⟨A', D', o1, -⟩ := o.incs n.toNat hB
  exact ⟨rfl, ⟨_, _, A', D', h1, o1, fun i hi => o1.safe.reach hi⟩, ht⟩
theorem Os.setRoot (s : Os w q p b B G M tg N K) (r : Nat) (hr : r < 8) {v : V} (hv : v.ok) (hK : v.Has K) :
    Calls Tryz.prog 30 #[.pointer (some ⟨q, 0, none⟩), .int .i64 (r : Int), .int .u64 (v.wd M.cell)] w fun e w' => e = .returned .nilIface ∧ Os w' q p b B G (M.setReg r v) tg N K ∧ Turns (Own3 q p b) w w' := by
  obtain ⟨v0, v1, hm⟩ := s.word hv hK
  obtain ⟨H, R, A, D, h, o, hk⟩ := s
  refine (SetRoot_yes o.safe.inv r _ (by omega) (by omega) v0 v1 hm w h).mono ?_
  rintro e w' ⟨rfl, h1, ht⟩
  exact ⟨rfl, ⟨_, _, A, D, h1, o.setRoot hr hv (V.Has.mono hk hK), hk⟩, ht⟩
theorem Os.root (s : Os w q p b B G M tg N K) (r : Nat) (hr : r < 8) :
    Calls Tryz.prog 40 #[.pointer (some ⟨q, 0, none⟩), .int .i64 (r : Int)] w fun e w' => e = .returned (.tuple #[.int .u64 ((M.reg r).wd M.cell), .nilIface]) ∧ Os w' q p b B G M tg N K ∧ Turns (Own3 q p b) w w' := by
  obtain ⟨H, R, A, D, h, o, hk⟩ := s
  have hl := o.safe.inv.len
  have hg := o.safe.inv.ok.lines
  refine (Root_yes (r : Int) (by omega) (by omega) (by omega) w h).mono ?_
  rintro e w' ⟨rfl, h1, ht⟩
  rw [o.safe.ct.regs r hr]
  exact ⟨rfl, ⟨_, _, A, D, h1, o, hk⟩, ht⟩
theorem Os.shape (s : Os w q p b B G M tg N K) (hz : K z) :
    Calls Tryz.prog 46 #[.pointer (some ⟨q, 0, none⟩), .int .u64 (8 * M.cell z + 1)] w fun e w' => e = .returned (.tuple #[.int .i64 (M.form z), .int .i64 (tg z), .int .i64 (M.len z : Int), .nilIface]) ∧ Os w' q p b B G M tg N K ∧ Turns (Own3 q p b) w w' := by
  have hC := s.place hz
  obtain ⟨H, R, A, D, h, o, hk⟩ := s
  refine (Shape_yes o.safe.inv _ hC w h).mono ?_
  rintro e w' ⟨rfl, h1, ht⟩
  obtain ⟨e1, e2⟩ := o.safe.ct.mark z (hk z hz)
  rw [e1, e2, o.tag z (hk z hz)]
  exact ⟨rfl, ⟨_, _, A, D, h1, o, hk⟩, ht⟩
theorem Os.shape_no (s : Os w q p b B G M tg N K) (x : Int) (x0 : 0 ≤ x) (x1 : x < 18446744073709551616) (hx : WM.kd x ≠ 2) :
    Calls Tryz.prog 46 #[.pointer (some ⟨q, 0, none⟩), .int .u64 x] w fun e w' => e = .returned (.tuple #[.int .i64 0, .int .i64 0, .int .i64 0, .iface 86 (.int .i64 2)]) ∧ Os w' q p b B G M tg N K ∧ Turns (Own3 q p b) w w' := by
  obtain ⟨H, R, A, D, h, o, hk⟩ := s
  refine (Shape_no o.safe.inv.ok x x0 x1 (plc_kd hx) w h).mono ?_
  rintro e w' ⟨rfl, h1, ht⟩
  exact ⟨rfl, ⟨_, _, A, D, h1, o, hk⟩, ht⟩
theorem Os.get (s : Os w q p b B G M tg N K) (hz : K z) (hj : j < M.len z) :
    Calls Tryz.prog 22 #[.pointer (some ⟨q, 0, none⟩), .int .u64 (8 * M.cell z + 1), .int .i64 (j : Int)] w fun e w' => e = .returned (.tuple #[.int .u64 ((M.fld z j).wd M.cell), .nilIface]) ∧ Os w' q p b B G M tg N K ∧ Turns (Own3 q p b) w w' := by
  obtain ⟨H, R, A, D, h, o, hk⟩ := s
  have hA := hk z hz
  obtain ⟨k, h4, hk13, hx⟩ := o.safe.ring hA
  obtain ⟨e1, e2⟩ := o.safe.ct.mark z hA
  have hf := o.soft3 z hA
  refine (Get_yes o.safe.inv (M.cell z) h4 hk13 hx (j : Int) (by omega) (by omega) w h).mono ?_
  rintro e w' ⟨rfl, h1, ht⟩
  rw [if_neg (by omega)] at h1
  rw [o.safe.ct.flds z hA hf j hj]
  exact ⟨rfl, ⟨_, _, A, D, h1, o, hk⟩, ht⟩
theorem Os.set (s : Os w q p b B G M tg N K) (hz : K z) (hj : j < M.len z) (h1 : M.form z = 1) {v : V} (hv : v.ok) (hK : v.Has K) :
    Calls Tryz.prog 53 #[.pointer (some ⟨q, 0, none⟩), .int .u64 (8 * M.cell z + 1), .int .i64 (j : Int), .int .u64 (v.wd M.cell)] w fun e w' => e = .returned .nilIface ∧ Os w' q p b B G (M.setFld z j v) tg N K ∧ Turns (Own3 q p b) w w' := by
  obtain ⟨v0, v1, hm⟩ := s.word hv hK
  obtain ⟨H, R, A, D, h, o, hk⟩ := s
  have hA := hk z hz
  obtain ⟨k, h4, hk13, hx⟩ := o.safe.ring hA
  obtain ⟨e1, e2⟩ := o.safe.ct.mark z hA
  refine (Set_yes o.safe.inv (M.cell z) h4 hk13 hx (j : Int) _ (by omega) (by omega) v0 v1 (.inr (.inl ⟨by omega, hm⟩)) w h).mono ?_
  rintro e w' ⟨rfl, h2, ht⟩
  exact ⟨rfl, ⟨_, _, A, D, h2, o.setF hA hj h1 hv (V.Has.mono hk hK), hk⟩, ht⟩
theorem Os.setRaw (s : Os w q p b B G M tg N K) (hz : K z) (hj : j < M.len z) (h2 : M.form z = 2) {x : Int} (x0 : 0 ≤ x) (x1 : x < 18446744073709551616) :
    Calls Tryz.prog 53 #[.pointer (some ⟨q, 0, none⟩), .int .u64 (8 * M.cell z + 1), .int .i64 (j : Int), .int .u64 x] w fun e w' => e = .returned .nilIface ∧ Os w' q p b B G (M.setFld z j (.w x)) tg N K ∧ Turns (Own3 q p b) w w' := by
  obtain ⟨H, R, A, D, h, o, hk⟩ := s
  have hA := hk z hz
  obtain ⟨k, h4, hk13, hx⟩ := o.safe.ring hA
  obtain ⟨e1, e2⟩ := o.safe.ct.mark z hA
  refine (Set_yes o.safe.inv (M.cell z) h4 hk13 hx (j : Int) x (by omega) (by omega) x0 x1 (.inl (by omega)) w h).mono ?_
  rintro e w' ⟨rfl, h3, ht⟩
  exact ⟨rfl, ⟨_, _, A, D, h3, o.setRaw hA hj h2 x0 x1, hk⟩, ht⟩
theorem Os.value (s : Os w q p b B G M tg N K) {v : V} (hv : v.ok) (hK : v.Has K) :
    Calls Tryz.prog 66 #[.pointer (some ⟨q, 0, none⟩), .int .u64 (v.wd M.cell)] w fun e w' => e = .returned (.bool true) ∧ ∃ k, w' = w.drewN k := by
  obtain ⟨v0, v1, hm⟩ := s.word hv hK
  obtain ⟨H, R, A, D, h, o, hk⟩ := s
  refine (Value_any o.safe.inv _ v0 v1 w h).mono ?_
  rintro e w' ⟨rfl, hw⟩
  rw [hm]
  exact ⟨rfl, hw⟩
/-- an allocation, as long as fewer were made than there are cells of that size -/
theorem Os.new (s : Os w q p b B G M tg N K) (f t : Int) (n : Nat) (f0 : 1 ≤ f) (f1 : f ≤ 2) (t0 : 0 ≤ t) (t1 : t < 16) (n1 : n < 128) (hB : B + G.k.toNat ≤ 1000000000) (hN : (N : Int) < G.n.at_ (cln n)) :
    Calls Tryz.prog 44 #[.pointer (some ⟨q, 0, none⟩), .int .i64 f, .int .i64 t, .int .i64 (n : Int)] w fun e w' => ∃ x : Int, e = .returned (.tuple #[.int .u64 (8 * x + 1), .nilIface]) ∧
      Os w' q p b (B + G.k.toNat) G (M.add N f n x) (tgs tg N t) (N + 1) (plus (Reach M) N) ∧ Turns (Own3 q p b) w w' := by
  obtain ⟨H, R, A, D, h, o, hk⟩ := s
  obtain ⟨-, -, -, -, -, -, -, -, k1, k2, -⟩ := o.safe.inv.ok
  obtain ⟨A', D', o1, -⟩ := o.incs G.k.toNat hB
  have hr := o1.room (cln n) (cln_lt _)
  refine (alloc_yes o.safe.inv f t n f0 (by omega) t0 t1 (by omega) (by omega) (fun e => by omega) (by omega) (by omega) w h).mono ?_
  rintro e w' ⟨rfl, h1, ht⟩
  refine ⟨_, rfl, ⟨_, _, _, _, h1, o1.alloc (n := n) f0 f1 t0 t1 n1 (by omega), fun i hi => ?_⟩, ht⟩
  exact hi.imp (fun h => o1.safe.reach h) (fun h => h)
end
end Go.Proofs.YtagedholocgahaaGreatDoor

namespace Go.Proofs.YtagedholocgahaaGreatDoor
open Go.ChangeShapes Go.WideShapes Go.ChangeAt Go.RowKit

/-- the tags that Make makes -/
def madeT (t : Int) : Bool := decide (t = 1 ∨ (3 ≤ t ∧ t ≤ 12))
/-- a slice of the words xs, none of them in the heap's own blocks -/
def Row (w : World) (q p b : Nat) (A : Option Addr) (xs : List Int) : Prop :=
  ∀ j, j < xs.length → ∃ g off, A = some ⟨g, off, none⟩ ∧ g < w.heap.size ∧ ¬ Own3 q p b g ∧ w.cell? ⟨g, off + j, none⟩ = some (.int .u64 (xs.getD j 0))

section
variable {w w' : World} {q p b : Nat} {B : Int} {G : Geo} {M : Md} {tg : Nat → Int} {N : Nat} {K K' X : Nat → Prop} {z j : Nat} {A : Option Addr} {xs : List Int}

theorem Row.turns (h : Row w q p b A xs) (k : Turns (Own3 q p b) w w') : Row w' q p b A xs := fun j hj => by
  obtain ⟨g, off, e, hg, ho, hc⟩ := h j hj
  exact ⟨g, off, e, Nat.lt_of_lt_of_le hg k.size, ho, (World.cell?_of_block (k.block g hg ho)).trans hc⟩
theorem Row.drewN (h : Row w q p b A xs) (n : Nat) : Row (w.drewN n) q p b A xs := h
theorem Row.drew (h : Row w q p b A xs) : Row w.drew q p b A xs := h

theorem isMade_any (t : Int) (w : World) : Calls Tryz.prog 62 #[.int .i64 t] w fun e w' => e = .returned (.bool (madeT t)) ∧ w = w' := by
  by_cases h1 : t = 1
  · subst h1
    go_enter Tryz.func62, Tryz.ntmps62
    go_wp2
    go_ret
    exact ⟨rfl, rfl⟩
  · have e1 : (t == 1) = false := by simpa using h1
    by_cases h3 : 3 ≤ t
    · by_cases h12 : t ≤ 12
      · have e : madeT t = true := decide_eq_true (by omega)
        rw [e]
        go_enter Tryz.func62, Tryz.ntmps62
        go_wp2
        go_ret
        exact ⟨rfl, rfl⟩
      · have e : madeT t = false := decide_eq_false (by omega)
        rw [e]
        go_enter Tryz.func62, Tryz.ntmps62
        go_wp2
        go_ret
        exact ⟨rfl, rfl⟩
    · have e : madeT t = false := decide_eq_false (by omega)
      rw [e]
      go_enter Tryz.func62, Tryz.ntmps62
      go_wp2
      go_ret
      exact ⟨rfl, rfl⟩
theorem isString_any (f t : Int) (w : World) : Calls Tryz.prog 70 #[.int .i64 f, .int .i64 t] w fun e w' => e = .returned (.bool (decide (f = 2 ∧ t = 2))) ∧ w = w' := by
  by_cases h1 : f = 2
  · subst h1
    by_cases h2 : t = 2
    · subst h2
      go_enter Tryz.func70, Tryz.ntmps70
      go_wp2
      go_ret
      exact ⟨rfl, rfl⟩
    · have e2 : (t == 2) = false := by simpa using h2
      rw [decide_eq_false (fun h => h2 h.2)]
      go_enter Tryz.func70, Tryz.ntmps70
      go_wp2
      go_ret
      exact ⟨rfl, rfl⟩
  · have e1 : (f == 2) = false := by simpa using h1
    rw [decide_eq_false (fun h => h1 h.1)]
    go_enter Tryz.func70, Tryz.ntmps70
    go_wp2
    go_ret
    exact ⟨rfl, rfl⟩

/-- all of them may stand -/
theorem mayStand_yes (s : Os w q p b B G M tg N K) (n c : Nat) (vs : List V) (hn : vs.length = n) (hn2 : n ≤ 1000000) (hv : ∀ v ∈ vs, v.ok ∧ v.Has K) (hr : Row w q p b A (vs.map (V.wd M.cell))) :
    Calls Tryz.prog 63 #[.pointer (some ⟨q, 0, none⟩), .slice A n c] w fun e w' => e = .returned (.bool true) ∧ ∃ k, w' = w.drewN k := by
  have VA : Hid (∀ (j : Nat) (k : Nat), j < n → Calls Tryz.prog 66 #[.pointer (some ⟨q, 0, none⟩), .int .u64 ((vs.map (V.wd M.cell)).getD j 0)] (w.drewN k) fun e w' => e = .returned (.bool true) ∧ ∃ k', w' = (w.drewN k).drewN k') := fun j k hj => by
    obtain ⟨h1, h2⟩ := hv (vs[j]'(by omega)) (List.getElem_mem _)
    have := (s.drewN k).value h1 h2
    rw [show (vs.map (V.wd M.cell)).getD j 0 = (vs[j]'(by omega)).wd M.cell by simp [hn, hj]]
    exact this
  have HR := Lib.hid (show ∀ j, j < n → _ from fun j hj => hr j (by simpa [hn] using hj))
  clear hv hr s
  generalize vs.map (V.wd M.cell) = xs at *
  go_enter Tryz.func63, Tryz.ntmps63
  go_wp2_with fail
  go_loopw [9] (fun v wr => ∃ j : Nat, j ≤ n ∧ v = .int .i64 j ∧ ∃ k, wr = w.drewN k) (fun v _ => n - (intOf v).toNat)
  case atStart => exact ⟨0, by omega, rfl, 0, rfl⟩
  case round =>
    obtain ⟨j, hj, rfl, k, rfl⟩ := hrel
    by_cases hjn : j < n
    · obtain ⟨g, off, rfl, -, -, hcell⟩ := HR.out j hjn
      have VJ := Lib.hid (VA.out j k hjn)
      replace hcell : (w.drewN k).cell? ⟨g, off + j, none⟩ = some (.int .u64 (xs.getD j 0)) := hcell
      generalize xs.getD j 0 = x at *
      go_wp2_with (go_at_call 66; refine VJ.out.mono ?_; rintro e w' ⟨rfl, k', rfl⟩)
      go_roundw
      case rel => exact ⟨j + 1, by omega, by go_num, k + k', by simp⟩
      case measure => simp [intOf]; omega
    · go_wp2_with fail
      go_ret
      exact ⟨rfl, k, rfl⟩

/-- The thing z, made at the cell x, with the first j of these values. -/
def Md.obj (M : Md) (z : Nat) (f : Int) (n : Nat) (x : Int) (vs : List V) (j : Nat) : Md :=
  { M.add z f n x with fld := fun i k => if i = z then (if k < j then vs.getD k (.w 0) else .w (blank f)) else M.fld i k }
theorem Md.obj_zero (M : Md) (z : Nat) (f : Int) (n : Nat) (x : Int) (vs : List V) : M.obj z f n x vs 0 = M.add z f n x := by
  unfold Md.obj Md.add
  simp
theorem Md.obj_next (M : Md) (z : Nat) (f : Int) (n : Nat) (x : Int) (vs : List V) (j : Nat) : (M.obj z f n x vs j).setFld z j (vs.getD j (.w 0)) = M.obj z f n x vs (j + 1) := by
  unfold Md.obj Md.setFld
  congr 1
  funext i k
  by_cases e : i = z
  · by_cases e2 : k = j
    · subst e2
      simp [e]
    · have : (k < j + 1) = (k < j) := by simp; omega
      simp [e, e2, this]
  · simp [e]
theorem Md.obj_wd {M : Md} {z : Nat} {f : Int} {n : Nat} {x : Int} {vs : List V} {j : Nat} {v : V} (h : v.Has (fun t => t < z)) : v.wd (M.obj z f n x vs j).cell = v.wd M.cell :=
  wd_add (f := f) (n := n) (V.Has.mono (fun t ht => by omega) h)
/-- nothing that is reached is called by a number that is not given out -/
theorem Os.low (s : Os w q p b B G M tg N K) {v : V} (hK : v.Has K) : v.Has (fun t => t < N) := by
  obtain ⟨H, R, A, D, h, o, hk⟩ := s
  exact V.Has.mono (fun t ht => o.few t (o.safe.ct.sub t (hk t ht))) hK
theorem Os.lowReach (s : Os w q p b B G M tg N K) {v : V} (hK : v.Has (Reach M)) : v.Has (fun t => t < N) := (s.fewer (K' := Reach M) fun _ h => .inr h).low hK

set_option maxHeartbeats 1000000 in
/-- a new object -/
theorem oalloc_any (s : Os w q p b B G M tg N K) (f t : Int) (n c : Nat) (vs : List V) (hn : vs.length = n) (f0 : 1 ≤ f) (f1 : f ≤ 2) (t0 : 0 ≤ t) (t1 : t < 16) (n1 : n < 128) (hB : B + G.k.toNat ≤ 1000000000) (hN : (N : Int) < G.n.at_ (cln n))
    (hv : ∀ v ∈ vs, v.Has (fun t => t < N) ∧ (f = 1 → v.ok ∧ v.Has (Reach M)) ∧ (f = 2 → ∃ x, v = .w x ∧ 0 ≤ x ∧ x < 18446744073709551616)) (hr : Row w q p b A (vs.map (V.wd M.cell))) :
    Calls Tryz.prog 64 #[.pointer (some ⟨q, 0, none⟩), .int .i64 f, .int .i64 t, .slice A n c] w fun e w' => ∃ x : Int, e = .returned (.tuple #[.int .u64 (8 * x + 1), .nilIface]) ∧
      Os w' q p b (B + G.k.toNat) G (M.obj N f n x vs n) (tgs tg N t) (N + 1) (plus (Reach M) N) ∧ Turns (Own3 q p b) w w' := by
  have AL := Lib.hid (s.new f t n f0 f1 t0 t1 n1 hB hN)
  have ST : Hid (∀ (x : Int) (j : Nat) (w1 : World), j < n → Os w1 q p b (B + G.k.toNat) G (M.obj N f n x vs j) (tgs tg N t) (N + 1) (plus (Reach M) N) → Calls Tryz.prog 53 #[.pointer (some ⟨q, 0, none⟩), .int .u64 (8 * x + 1), .int .i64 (j : Int), .int .u64 ((vs.map (V.wd M.cell)).getD j 0)] w1 fun e w' =>
      e = .returned .nilIface ∧ Os w' q p b (B + G.k.toNat) G (M.obj N f n x vs (j + 1)) (tgs tg N t) (N + 1) (plus (Reach M) N) ∧ Turns (Own3 q p b) w1 w') := fun x j w1 hj h1 => by
    obtain ⟨hlow, h1v, h2v⟩ := hv (vs[j]'(by omega)) (List.getElem_mem _)
    have ev : vs.getD j (.w 0) = vs[j]'(by omega) := by simp [hn, hj]
    have ex : (M.obj N f n x vs j).cell N = x := if_pos rfl
    have el : (M.obj N f n x vs j).len N = n := if_pos rfl
    have ef : (M.obj N f n x vs j).form N = f := if_pos rfl
    have ew : (vs.map (V.wd M.cell)).getD j 0 = (vs[j]'(by omega)).wd (M.obj N f n x vs j).cell := by
      rw [Md.obj_wd hlow]
      simp [hn, hj]
    rw [ew, ← Md.obj_next, ev]
    have hz : plus (Reach M) N N := .inr rfl
    rcases (show f = 1 ∨ f = 2 by omega) with e | e
    · obtain ⟨hok, hre⟩ := h1v e
      have := h1.set (z := N) (j := j) hz (by rw [el]; exact hj) (by rw [ef]; exact e) hok (V.Has.mono (fun t ht => .inl ht) hre)
      rw [ex] at this
      exact this
    · obtain ⟨y, ey, y0, y1⟩ := h2v e
      have := h1.setRaw (z := N) (j := j) hz (by rw [el]; exact hj) (by rw [ef]; exact e) y0 y1
      rw [ex] at this
      rw [ey]
      exact this
  have HR := Lib.hid (show ∀ w1, Turns (Own3 q p b) w w1 → ∀ j, j < n → _ from fun w1 k j hj => (hr.turns k) j (by simpa [hn] using hj))
  have OZ := Lib.hid (fun x => Md.obj_zero M N f n x vs)
  clear hv hr s hn
  generalize vs.map (V.wd M.cell) = xs at *
  go_enter Tryz.func64, Tryz.ntmps64
  go_wp2_with (first
    | (go_at_call 44; refine AL.out.mono ?_; rintro e w1 ⟨x, rfl, hs1, ht1⟩))
  rw [← OZ.out x] at hs1
  go_loopw [29] (fun v wr => ∃ j : Nat, j ≤ n ∧ v = .int .i64 j ∧ Os wr q p b (B + G.k.toNat) G (M.obj N f n x vs j) (tgs tg N t) (N + 1) (plus (Reach M) N) ∧ Turns (Own3 q p b) w wr) (fun v _ => n - (intOf v).toNat)
  case atStart => exact ⟨0, by omega, rfl, hs1, ht1⟩
  case round =>
    obtain ⟨j, hj, rfl, hs, ht⟩ := hrel
    by_cases hjn : j < n
    · obtain ⟨g, off, rfl, -, -, hcell⟩ := HR.out _ ht j hjn
      have SJ := Lib.hid (ST.out x j wr hjn hs)
      generalize xs.getD j 0 = y at *
      generalize 8 * x + 1 = cw at *
      go_wp2_with (go_at_call 53; refine SJ.out.mono ?_; rintro e w2 ⟨rfl, hs2, ht2⟩)
      go_roundw
      case rel => exact ⟨j + 1, by omega, by go_num, hs2, ht.trans ht2⟩
      case measure => simp [intOf]; omega
    · obtain rfl : j = n := by omega
      go_wp2_with fail
      go_ret2
      exact ⟨x, rfl, hs, ht⟩
end
end Go.Proofs.YtagedholocgahaaGreatDoor

namespace Go.Proofs.YtagedholocgahaaGreatDoor
open Go.ChangeShapes Go.WideShapes Go.ChangeAt Go.RowKit

section
variable {w w' : World} {q p b : Nat} {B : Int} {G : Geo} {M : Md} {tg : Nat → Int} {N : Nat} {K K' X : Nat → Prop} {z j : Nat} {A : Option Addr} {xs : List Int}

/-- what is wrong with a field -/
def chk (f t t' n i : Int) : Int := if t = t' then (if f = 2 ∧ t = 2 then 9 else if i < 0 then 13 else if n ≤ i then 13 else 0) else 9
theorem chk_no {f t n i : Int} (h : ¬ (f = 2 ∧ t = 2)) (h0 : 0 ≤ i) (h1 : i < n) : chk f t t n i = 0 := by
  rw [chk, if_pos rfl, if_neg h, if_neg (by omega), if_neg (by omega)]

theorem isString_is (f t : Int) (x : Bool) (h : decide (f = 2 ∧ t = 2) = x) (w : World) : Calls Tryz.prog 70 #[.int .i64 f, .int .i64 t] w fun e w' => e = .returned (.bool x) ∧ w = w' := by
  have := isString_any f t w
  rw [h] at this
  exact this
theorem check_any (s : Os w q p b B G M tg N K) (hz : K z) (t' i : Int) :
    Calls Tryz.prog 68 #[.pointer (some ⟨q, 0, none⟩), .int .u64 (8 * M.cell z + 1), .int .i64 t', .int .i64 i] w fun e w' => e = .returned (er (chk (M.form z) (tg z) t' (M.len z) i)) ∧ Os w' q p b B G M tg N K ∧ Turns (Own3 q p b) w w' := by
  have SH := Lib.hid (s.shape hz)
  clear s
  generalize M.form z = f at *
  generalize tg z = t at *
  generalize M.len z = n at *
  generalize 8 * M.cell z + 1 = x at *
  by_cases h1 : t = t'
  · subst h1
    by_cases h2 : f = 2 ∧ t = 2
    · rw [chk, if_pos rfl, if_pos h2, er_yes (by omega)]
      obtain ⟨rfl, rfl⟩ := h2
      have IS := Lib.hid (fun w => isString_is 2 2 true (by simp) w)
      go_enter Tryz.func68, Tryz.ntmps68
      go_wp2_with (first
        | (go_at_call 46; refine SH.out.mono ?_; rintro e w1 ⟨rfl, hs1, ht1⟩)
        | (go_at_call 70; refine (IS.out _).mono ?_; rintro e w' ⟨rfl, rfl⟩))
      go_ret
      exact ⟨rfl, hs1, ht1⟩
    · have IS := Lib.hid (fun w => isString_is f t false (by simpa using h2) w)
      rw [chk, if_pos rfl, if_neg h2]
      by_cases h3 : i < 0
      · rw [if_pos h3, er_yes (by omega)]
        go_enter Tryz.func68, Tryz.ntmps68
        go_wp2_with (first
          | (go_at_call 46; refine SH.out.mono ?_; rintro e w1 ⟨rfl, hs1, ht1⟩)
          | (go_at_call 70; refine (IS.out _).mono ?_; rintro e w' ⟨rfl, rfl⟩))
        go_ret
        exact ⟨rfl, hs1, ht1⟩
      · rw [if_neg h3]
        by_cases h4 : (n : Int) ≤ i
        · rw [if_pos h4, er_yes (by omega)]
          go_enter Tryz.func68, Tryz.ntmps68
          go_wp2_with (first
            | (go_at_call 46; refine SH.out.mono ?_; rintro e w1 ⟨rfl, hs1, ht1⟩)
            | (go_at_call 70; refine (IS.out _).mono ?_; rintro e w' ⟨rfl, rfl⟩))
          go_ret
          exact ⟨rfl, hs1, ht1⟩
        · rw [if_neg h4, er_no]
          go_enter Tryz.func68, Tryz.ntmps68
          go_wp2_with (first
            | (go_at_call 46; refine SH.out.mono ?_; rintro e w1 ⟨rfl, hs1, ht1⟩)
            | (go_at_call 70; refine (IS.out _).mono ?_; rintro e w' ⟨rfl, rfl⟩))
          go_ret
          exact ⟨rfl, hs1, ht1⟩
  · rw [chk, if_neg h1, er_yes (by omega)]
    have e1 : (t == t') = false := by simpa using h1
    go_enter Tryz.func68, Tryz.ntmps68
    go_wp2_with (first
      | (go_at_call 46; refine SH.out.mono ?_; rintro e w1 ⟨rfl, hs1, ht1⟩))
    go_ret
    exact ⟨rfl, hs1, ht1⟩

theorem tag_of (s : Os w q p b B G M tg N K) (hz : K z) :
    Calls Tryz.prog 33 #[.pointer (some ⟨q, 0, none⟩), .int .u64 (8 * M.cell z + 1)] w fun e w' => e = .returned (.int .i64 (tg z)) ∧ Os w' q p b B G M tg N K ∧ Turns (Own3 q p b) w w' := by
  have SH := Lib.hid (s.shape hz)
  clear s
  generalize tg z = t at *
  generalize 8 * M.cell z + 1 = x at *
  go_enter Tryz.func33, Tryz.ntmps33
  go_wp2_with (go_at_call 46; refine SH.out.mono ?_; rintro e w1 ⟨rfl, hs1, ht1⟩)
  go_ret
  exact ⟨rfl, hs1, ht1⟩
theorem len_of (s : Os w q p b B G M tg N K) (hz : K z) :
    Calls Tryz.prog 34 #[.pointer (some ⟨q, 0, none⟩), .int .u64 (8 * M.cell z + 1)] w fun e w' => e = .returned (.int .i64 (M.len z : Int)) ∧ Os w' q p b B G M tg N K ∧ Turns (Own3 q p b) w w' := by
  have SH := Lib.hid (s.shape hz)
  clear s
  generalize M.len z = n at *
  generalize 8 * M.cell z + 1 = x at *
  go_enter Tryz.func34, Tryz.ntmps34
  go_wp2_with (go_at_call 46; refine SH.out.mono ?_; rintro e w1 ⟨rfl, hs1, ht1⟩)
  go_ret
  exact ⟨rfl, hs1, ht1⟩

/-- a field that is refused -/
theorem field_no (s : Os w q p b B G M tg N K) (hz : K z) (t' i k : Int) (hc : chk (M.form z) (tg z) t' (M.len z) i = k) (h : k ≠ 0) :
    Calls Tryz.prog 32 #[.pointer (some ⟨q, 0, none⟩), .int .u64 (8 * M.cell z + 1), .int .i64 t', .int .i64 i] w fun e w' => e = .returned (.tuple #[.int .u64 0, .iface 86 (.int .i64 k)]) ∧ Os w' q p b B G M tg N K ∧ Turns (Own3 q p b) w w' := by
  have CC := Lib.hid (check_any s hz t' i)
  rw [hc, er_yes h] at CC
  clear s hc
  generalize 8 * M.cell z + 1 = x at *
  go_enter Tryz.func32, Tryz.ntmps32
  go_wp2_with (go_at_call 68; refine CC.out.mono ?_; rintro e w1 ⟨rfl, hs1, ht1⟩)
  go_ret2
  exact ⟨rfl, hs1, ht1⟩
theorem field_of (s : Os w q p b B G M tg N K) (hz : K z) (hj : j < M.len z) (ht : ¬ (M.form z = 2 ∧ tg z = 2)) :
    Calls Tryz.prog 32 #[.pointer (some ⟨q, 0, none⟩), .int .u64 (8 * M.cell z + 1), .int .i64 (tg z), .int .i64 (j : Int)] w fun e w' => e = .returned (.tuple #[.int .u64 ((M.fld z j).wd M.cell), .nilIface]) ∧ Os w' q p b B G M tg N K ∧ Turns (Own3 q p b) w w' := by
  have CC := Lib.hid (check_any s hz (tg z) j)
  rw [chk_no ht (by omega) (by omega), er_no] at CC
  have GG := Lib.hid (fun w1 (h1 : Os w1 q p b B G M tg N K) => h1.get hz hj)
  clear s ht
  generalize (M.fld z j).wd M.cell = y at *
  generalize 8 * M.cell z + 1 = x at *
  go_enter Tryz.func32, Tryz.ntmps32
  go_wp2_with (first
    | (go_at_call 68; refine CC.out.mono ?_; rintro e w1 ⟨rfl, hs1, ht1⟩)
    | (go_at_call 22; refine (GG.out _ hs1).mono ?_; rintro e w2 ⟨rfl, hs2, ht2⟩))
  go_ret2
  exact ⟨rfl, hs2, ht1.trans ht2⟩
theorem setField_no (s : Os w q p b B G M tg N K) (hz : K z) (t' i k v : Int) (hc : chk (M.form z) (tg z) t' (M.len z) i = k) (h : k ≠ 0) :
    Calls Tryz.prog 31 #[.pointer (some ⟨q, 0, none⟩), .int .u64 (8 * M.cell z + 1), .int .i64 t', .int .i64 i, .int .u64 v] w fun e w' => e = .returned (.iface 86 (.int .i64 k)) ∧ Os w' q p b B G M tg N K ∧ Turns (Own3 q p b) w w' := by
  have CC := Lib.hid (check_any s hz t' i)
  rw [hc, er_yes h] at CC
  clear s hc
  generalize 8 * M.cell z + 1 = x at *
  go_enter Tryz.func31, Tryz.ntmps31
  go_wp2_with (go_at_call 68; refine CC.out.mono ?_; rintro e w1 ⟨rfl, hs1, ht1⟩)
  go_ret
  exact ⟨rfl, hs1, ht1⟩
theorem setField_of (s : Os w q p b B G M tg N K) (hz : K z) (hj : j < M.len z) (h1 : M.form z = 1) {v : V} (hv : v.ok) (hK : v.Has K) :
    Calls Tryz.prog 31 #[.pointer (some ⟨q, 0, none⟩), .int .u64 (8 * M.cell z + 1), .int .i64 (tg z), .int .i64 (j : Int), .int .u64 (v.wd M.cell)] w fun e w' => e = .returned .nilIface ∧ Os w' q p b B G (M.setFld z j v) tg N K ∧ Turns (Own3 q p b) w w' := by
  have CC := Lib.hid (check_any s hz (tg z) j)
  rw [chk_no (by omega) (by omega) (by omega), er_no] at CC
  have GG := Lib.hid (fun w1 (k1 : Os w1 q p b B G M tg N K) => k1.set hz hj h1 hv hK)
  clear s
  generalize v.wd M.cell = y at *
  generalize 8 * M.cell z + 1 = x at *
  go_enter Tryz.func31, Tryz.ntmps31
  go_wp2_with (first
    | (go_at_call 68; refine CC.out.mono ?_; rintro e w1 ⟨rfl, hs1, ht1⟩)
    | (go_at_call 53; refine (GG.out _ hs1).mono ?_; rintro e w2 ⟨rfl, hs2, ht2⟩))
  go_ret
  exact ⟨rfl, hs2, ht1.trans ht2⟩

/-- what Make refuses -/
theorem make_no (q : Nat) (t : Int) (n c : Nat) (hn : n ≤ maxLen) (h : ¬ (madeT t = true ∧ n ≤ 120)) (w : World) :
    Calls Tryz.prog 27 #[.pointer (some ⟨q, 0, none⟩), .int .i64 t, .slice A n c] w fun e w' => e = .returned (.tuple #[.int .u64 0, .iface 86 (.int .i64 2)]) ∧ w = w' := by
  unfold maxLen at hn
  have IM := Lib.hid (fun w => isMade_any t w)
  by_cases h1 : madeT t = true
  · have h2 : ¬ n ≤ 120 := fun h2 => h ⟨h1, h2⟩
    rw [h1] at IM
    clear h1 h
    go_enter Tryz.func27, Tryz.ntmps27
    go_wp2_with (go_at_call 62; refine (IM.out _).mono ?_; rintro e w' ⟨rfl, rfl⟩)
    go_ret2
    exact ⟨rfl, rfl⟩
  · rw [Bool.not_eq_true] at h1
    rw [h1] at IM
    clear h1 h
    go_enter Tryz.func27, Tryz.ntmps27
    go_wp2_with (go_at_call 62; refine (IM.out _).mono ?_; rintro e w' ⟨rfl, rfl⟩)
    go_ret2
    exact ⟨rfl, rfl⟩
theorem make_of (s : Os w q p b B G M tg N K) (t : Int) (n c : Nat) (vs : List V) (hn : vs.length = n) (ht : madeT t = true) (n1 : n ≤ 120) (hB : B + G.k.toNat ≤ 1000000000) (hN : (N : Int) < G.n.at_ (cln n))
    (hv : ∀ v ∈ vs, v.ok ∧ v.Has (Reach M)) (hr : Row w q p b A (vs.map (V.wd M.cell))) :
    Calls Tryz.prog 27 #[.pointer (some ⟨q, 0, none⟩), .int .i64 t, .slice A n c] w fun e w' => ∃ x : Int, e = .returned (.tuple #[.int .u64 (8 * x + 1), .nilIface]) ∧
      Os w' q p b (B + G.k.toNat) G (M.obj N 1 n x vs n) (tgs tg N t) (N + 1) (plus (Reach M) N) ∧ Turns (Own3 q p b) w w' := by
  have s2 : Os w q p b B G M tg N (Reach M) := s.fewer fun _ h => .inr h
  have IM := Lib.hid (fun w => ht ▸ isMade_any t w)
  have MS := Lib.hid (mayStand_yes s2 n c vs hn (by omega) hv hr)
  have ht' := of_decide_eq_true ht
  have AL := Lib.hid (fun k => oalloc_any (s.drewN k) 1 t n c vs hn (by omega) (by omega) (by omega) (by omega) (by omega) hB hN (fun v h => ⟨s.lowReach (hv v h).2, fun _ => hv v h, fun e => absurd e (by omega)⟩) (hr.drewN k))
  clear s s2 hv hr hn ht ht'
  go_enter Tryz.func27, Tryz.ntmps27
  go_wp2_with (first
    | (go_at_call 62; refine (IM.out _).mono ?_; rintro e w' ⟨rfl, rfl⟩)
    | (go_at_call 63; refine MS.out.mono ?_; rintro e w' ⟨rfl, k, rfl⟩)
    | (go_at_call 64; refine (AL.out k).mono ?_; rintro e w1 ⟨x, rfl, hs1, ht1⟩))
  go_ret2
  exact ⟨x, rfl, hs1, ⟨ht1.os, ht1.tape, ht1.output, ht1.size, ht1.block⟩⟩

theorem isPair_of (s : Os w q p b B G M tg N K) (hz : K z) (h1 : M.form z = 1) (h2 : tg z = 1) :
    Calls Tryz.prog 105 #[.pointer (some ⟨q, 0, none⟩), .int .u64 (8 * M.cell z + 1)] w fun e w' => e = .returned (.bool true) ∧ Os w' q p b B G M tg N K ∧ Turns (Own3 q p b) w w' := by
  have SH := Lib.hid (s.shape hz)
  rw [h1, h2] at SH
  clear s
  generalize 8 * M.cell z + 1 = x at *
  go_enter Tryz.func105, Tryz.ntmps105
  go_wp2_with (go_at_call 46; refine SH.out.mono ?_; rintro e w1 ⟨rfl, hs1, ht1⟩)
  go_ret
  exact ⟨rfl, hs1, ht1⟩
theorem isPair_nil (s : Os w q p b B G M tg N K) :
    Calls Tryz.prog 105 #[.pointer (some ⟨q, 0, none⟩), .int .u64 4] w fun e w' => e = .returned (.bool false) ∧ Os w' q p b B G M tg N K ∧ Turns (Own3 q p b) w w' := by
  have SH := Lib.hid (s.shape_no 4 (by omega) (by omega) (by decide +kernel))
  clear s
  go_enter Tryz.func105, Tryz.ntmps105
  go_wp2_with (go_at_call 46; refine SH.out.mono ?_; rintro e w1 ⟨rfl, hs1, ht1⟩)
  go_ret
  exact ⟨rfl, hs1, ht1⟩
end
end Go.Proofs.YtagedholocgahaaGreatDoor
