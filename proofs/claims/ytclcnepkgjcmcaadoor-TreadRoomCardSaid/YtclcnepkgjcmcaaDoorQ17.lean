/- Safety: a new cell. Plain mathematics. -/
import Derived.Test.YtclcnepkgjcmcaaDoorQ16
namespace Go.Proofs.YtclcnepkgjcmcaaDoor
open Go.RowKit

/-- the thing z is a new one, at the cell x -/
def Md.add (M : Md) (z : Nat) (f : Int) (n : Nat) (x : Int) : Md :=
  { M with form := fun i => if i = z then f else M.form i, len := fun i => if i = z then n else M.len i, fld := fun i k => if i = z then .w (blank f) else M.fld i k, cell := fun i => if i = z then x else M.cell i }
def plus (A : Nat → Prop) (z : Nat) : Nat → Prop := fun i => A i ∨ i = z

section
variable {M : Md} {A D : Nat → Prop} {R R' : Nat → List Int} {B : Int} {G : Geo} {H H' : Hp} {ws : List Int} {z : Nat}

theorem blank_ok (f : Int) : (V.w (blank f)).ok := by
  unfold blank
  split
  · exact ⟨by omega, by omega, by decide +kernel⟩
  · exact twelve_none
theorem V.Has.left {v : V} (h : v.Has A) : v.Has (plus A z) := V.Has.mono (fun _ h => .inl h) h
theorem wd_add {f x : Int} {n : Nat} {v : V} (h : v.Has (fun t => t ≠ z)) : v.wd (M.add z f n x).cell = v.wd M.cell := by
  cases v with
  | w y => rfl
  | t t =>
    show 8 * (if t = z then x else M.cell t) + 1 = 8 * M.cell t + 1
    rw [if_neg h]
/-- what was there doesn't name the new one -/
theorem V.Has.back {v : V} {C : Nat → Prop} (h : v.Has C) (hv : v.Has A) (hz : ¬ A z) : v.Has (fun i => C i ∧ i ≠ z) := by
  cases v with
  | w y => trivial
  | t t => exact ⟨h, fun e => hz (by rw [← e]; exact hv)⟩

/-- a new thing -/
theorem Safe.alloc (s : Safe B G H R M A D) (hz : ¬ D z) (hnew : ∀ i, A i → ∀ j, j < M.len i → (M.fld i j).Has (fun t => t ≠ z)) {f t : Int} {n : Nat} (f0 : 1 ≤ f) (f1 : f ≤ 3) (t0 : 0 ≤ t) (t1 : t < 16) (n1 : n < 128) (hw : f = 3 → n = 2) (h : H.fre.at_ (cln n) ≠ 0) :
    Safe B G (H.alloc f t n) (H.allocR R (cln n)) (M.add z f n (H.firstFree (cln n))) (plus A z) (plus D z) ∧ (∀ i, D i → M.cell i ≠ H.firstFree (cln n)) ∧ Bk (H.allocR R (cln n)) (H.firstFree (cln n)) := by
  have c := s.ct
  have i := s.inv
  have hi := inv_alloc i f0 f1 t0 t1 (n := (n : Int)) (by omega) (by omega) (fun e => by have := hw e; omega) h
  obtain ⟨hb, hC, hcl, hm, hbl, hdt, hmk⟩ := alloc_words i f0 f1 t0 t1 (n := (n : Int)) (by omega) (by omega) (fun e => by have := hw e; omega) h
  have hzA : ¬ A z := fun h => hz (c.sub z h)
  have hcn := cln_lt (n : Int)
  have hR : ∀ j x, j < 13 → (x ∈ H.allocR R (cln n) j ↔ (x = H.firstFree (cln n) ∧ j = 8 + cln n) ∨ (x ≠ H.firstFree (cln n) ∧ x ∈ R j)) := fun j x hj => mem_mvR i.rg (by omega) hb (by omega) hj
  have hfree : ∀ x, Hd R x → x ≠ H.firstFree (cln n) := fun x ⟨k, h4, hk, hx⟩ e => by
    rw [e] at hx
    have := i.rg.apart k (cln n) (by omega) (by omega) _ hx hb
    omega
  have hD : ∀ y, D y → M.cell y ≠ H.firstFree (cln n) := fun y hy => hfree _ (s.co.had y hy)
  have hln : (n : Int) + 3 ≤ ln (G.cls (H.firstFree (cln n))) := by
    rw [hcl]
    unfold cln ln
    (repeat' split) <;> omega
  have cellD : ∀ y, D y → (M.add z f n (H.firstFree (cln n))).cell y = M.cell y := fun y hy => if_neg (fun e => hz (by rw [← e]; exact hy))
  have cellz : (M.add z f n (H.firstFree (cln n))).cell z = H.firstFree (cln n) := if_pos rfl
  have neA : ∀ y, A y → y ≠ z := fun y hy e => hzA (by rw [← e]; exact hy)
  -- the words of the things that were there
  have P : ∀ y, A y → ∀ j : Int, 0 ≤ j → j < M.len y → gv (H.alloc f t n).ws (M.cell y + 3 + j) = gv H.ws (M.cell y + 3 + j) := fun y hy j j0 j1 => by
    have hCy := c.place y (c.sub y hy)
    have hr := c.room y hy
    refine hdt _ (Geo.ok.field i.ok hCy j0 (by omega)) (fun hh => ?_)
    have := Geo.far i.ok hCy hC (hD y (c.sub y hy))
    omega
  have W : ∀ y, A y → M.form y = 3 → gv (H.alloc f t n).ws (M.cell y + 3) = gv H.ws (M.cell y + 3) ∧ gv (H.alloc f t n).ws (M.cell y + 4) = gv H.ws (M.cell y + 4) := fun y hy h3 => by
    have hl := (c.kind y hy).2 h3
    have a := P y hy 0 (by omega) (by omega)
    have b := P y hy 1 (by omega) (by omega)
    rw [show M.cell y + 3 + 0 = M.cell y + 3 by omega] at a
    rw [show M.cell y + 3 + 1 = M.cell y + 4 by omega] at b
    exact ⟨a, b⟩
  have nwR : ∀ x, Nw (H.allocR R (cln n)) x → x = H.firstFree (cln n) ∨ Nw R x := fun x ⟨k, h8, hk, hx⟩ => ((hR k x hk).1 hx).elim (fun h => .inl h.1) (fun h => .inr ⟨k, h8, hk, h.2⟩)
  have nwL : ∀ x, Nw R x → Nw (H.allocR R (cln n)) x := fun x ⟨k, h8, hk, hx⟩ => ⟨k, h8, hk, (hR k x hk).2 (.inr ⟨hfree x ⟨k, by omega, hk, hx⟩, hx⟩)⟩
  have bkR : ∀ x, x ≠ H.firstFree (cln n) → Bk (H.allocR R (cln n)) x → Bk R x := fun x hne ⟨k, h8, hk, hx⟩ => ((hR k x (by omega)).1 hx).elim (fun h => absurd h.1 hne) (fun h => ⟨k, h8, hk, h.2⟩)
  have bkz : Bk (H.allocR R (cln n)) (H.firstFree (cln n)) := ⟨8 + cln n, by omega, by omega, (hR _ _ (by omega)).2 (.inl ⟨rfl, rfl⟩)⟩
  refine ⟨⟨hi, ⟨fun y hy => ?_, fun y u hy hu e => ?_, fun y hy => hy.imp (c.sub y) (fun h => h), fun y hy => ?_, fun y hy => ?_, fun y hy => ?_, fun y hy h3 k hk => ?_, fun y hy h3 => ?_, fun k hk => ?_, fun k k8 k12 => ?_, fun y hy h2 k hk => ?_, c.goodr, ⟨fun k hk => (c.closed.reg k hk).left, fun y hy h1 k hk => ?_, fun y hy h3 h0 => ?_⟩⟩,
    ⟨fun y hy => ?_, fun x hx => ?_⟩, fun hmk' => ?_, fun hmk' y hy => hy.imp (s.idle hmk' y) (fun h => h), fun hmk' => ?_, fun hmk' y hy h3 hbk => ?_⟩, hD, bkz⟩
  · rcases hy with hy | rfl
    · rw [cellD y hy]
      exact c.place y hy
    · rw [cellz]
      exact hC
  · rcases hy with hy | rfl <;> rcases hu with hu | rfl
    · rw [cellD y hy, cellD u hu] at e
      exact c.inj y u hy hu e
    · rw [cellD y hy, cellz] at e
      exact absurd e (hD y hy)
    · rw [cellD u hu, cellz] at e
      exact absurd e.symm (hD u hu)
    · rfl
  · show ((if y = z then f else M.form y) = 1 ∨ (if y = z then f else M.form y) = 2 ∨ (if y = z then f else M.form y) = 3) ∧ ((if y = z then f else M.form y) = 3 → (if y = z then n else M.len y) = 2)
    rcases hy with hy | rfl
    · rw [if_neg (neA y hy), if_neg (neA y hy)]
      exact c.kind y hy
    · rw [if_pos rfl, if_pos rfl]
      exact ⟨by omega, hw⟩
  · show mform (gv _ ((M.add z f n (H.firstFree (cln n))).cell y)) = (if y = z then f else M.form y) ∧ msize (gv _ ((M.add z f n (H.firstFree (cln n))).cell y)) = ((if y = z then n else M.len y : Nat) : Int)
    rcases hy with hy | rfl
    · rw [if_neg (neA y hy), if_neg (neA y hy), cellD y (c.sub y hy), hmk _ (c.place y (c.sub y hy)) (hD y (c.sub y hy))]
      exact c.mark y hy
    · rw [if_pos rfl, if_pos rfl, cellz, hm, mform_with, msize_with, mshape_form (by omega) (by omega), mshape_size (by omega) (by omega) t0 t1 (by omega) (by omega)]
      exact ⟨rfl, rfl⟩
  · show ((if y = z then n else M.len y : Nat) : Int) + 3 ≤ ln (G.cls ((M.add z f n (H.firstFree (cln n))).cell y))
    rcases hy with hy | rfl
    · rw [if_neg (neA y hy), cellD y (c.sub y hy)]
      exact c.room y hy
    · rw [if_pos rfl, cellz]
      exact hln
  · rcases hy with hy | rfl
    · have h3' : ¬ (if y = z then f else M.form y) = 3 := h3
      have hk' : k < (if y = z then n else M.len y) := hk
      rw [if_neg (neA y hy)] at h3' hk'
      have hg := P y hy k (by omega) (by omega)
      rw [cellD y (c.sub y hy), hg, c.flds y hy h3' k hk']
      show _ = V.wd _ (if y = z then .w (blank f) else M.fld y k)
      rw [if_neg (neA y hy), wd_add (hnew y hy k hk')]
    · have hk' : k < (if y = y then n else M.len y) := hk
      rw [if_pos rfl] at hk'
      rw [cellz, hbl k (by omega) (by omega)]
      show _ = V.wd _ (if y = y then .w (blank f) else M.fld y k)
      rw [if_pos rfl]
      rfl
  · rcases hy with hy | rfl
    · have h3' : (if y = z then f else M.form y) = 3 := h3
      rw [if_neg (neA y hy)] at h3'
      have hl := (c.kind y hy).2 h3'
      obtain ⟨w1, w2⟩ := W y hy h3'
      rw [cellD y (c.sub y hy), w1, w2]
      show _ = V.wd _ (if y = z then .w (blank f) else M.fld y 0) ∧ _ = V.wd _ (if y = z then .w (blank f) else M.fld y 1) ∧ V.Has _ (if y = z then .w (blank f) else M.fld y 0) ∨ _ ∧ _ ∧ ¬ V.Has _ (if y = z then .w (blank f) else M.fld y 0)
      rw [if_neg (neA y hy), if_neg (neA y hy), wd_add (hnew y hy 0 (by omega)), wd_add (hnew y hy 1 (by omega))]
      refine (c.weak y hy h3').imp (fun ⟨a, b, d⟩ => ⟨a, b, d.left⟩) (fun ⟨a, b, d⟩ => ⟨a, b, fun k => d ?_⟩)
      have hn := hnew y hy 0 (by omega)
      cases ev : M.fld y 0 with
      | w x => trivial
      | t t =>
        rw [ev] at k hn
        exact k.elim (fun h => h) (fun h => absurd h hn)
    · have h3' : (if y = y then f else M.form y) = 3 := h3
      rw [if_pos rfl] at h3'
      have hn2 := hw h3'
      have w1 := hbl 0 (by omega) (by omega)
      have w2 := hbl 1 (by omega) (by omega)
      rw [show H.firstFree (cln n) + 3 + 0 = H.firstFree (cln n) + 3 by omega] at w1
      rw [show H.firstFree (cln n) + 3 + 1 = H.firstFree (cln n) + 4 by omega] at w2
      left
      rw [cellz, w1, w2]
      show _ = V.wd _ (if y = y then .w (blank f) else M.fld y 0) ∧ _ = V.wd _ (if y = y then .w (blank f) else M.fld y 1) ∧ V.Has _ (if y = y then .w (blank f) else M.fld y 0)
      rw [if_pos rfl, if_pos rfl]
      exact ⟨rfl, rfl, trivial⟩
  · rw [hdt _ (i.ok.register (by omega) (by omega)) (by have := (Geo.extent i.ok hC).1; omega), c.regs k hk]
    show _ = V.wd _ (M.reg k)
    refine (wd_add ?_).symm
    have := c.closed.reg k hk
    cases ev : M.reg k with
    | w x => trivial
    | t t =>
      rw [ev] at this
      exact neA t this
  · rw [hdt _ (i.ok.register (by omega) (by omega)) (by have := (Geo.extent i.ok hC).1; omega)]
    exact c.rest k k8 k12
  · show V.ok (if y = z then .w (blank f) else M.fld y k)
    have hk' : k < (if y = z then n else M.len y) := hk
    have h2' : (if y = z then f else M.form y) ≠ 2 := h2
    rcases hy with hy | rfl
    · rw [if_neg (neA y hy)] at hk' h2' ⊢
      exact c.goodf y hy h2' k hk'
    · rw [if_pos rfl]
      exact blank_ok f
  · show V.Has _ (if y = z then .w (blank f) else M.fld y k)
    have hk' : k < (if y = z then n else M.len y) := hk
    have h1' : (if y = z then f else M.form y) = 1 := h1
    rcases hy with hy | rfl
    · rw [if_neg (neA y hy)] at hk' h1' ⊢
      exact (c.closed.plain y hy h1' k hk').left
    · rw [if_pos rfl]
      trivial
  · show V.Has _ (if y = z then .w (blank f) else M.fld y 1)
    have h3' : (if y = z then f else M.form y) = 3 := h3
    have h0' : V.Has (plus A z) (if y = z then .w (blank f) else M.fld y 0) := h0
    rcases hy with hy | rfl
    · rw [if_neg (neA y hy)] at h3' h0' ⊢
      have hl := (c.kind y hy).2 h3'
      refine (c.closed.weak y hy h3' ?_).left
      have hn := hnew y hy 0 (by omega)
      cases ev : M.fld y 0 with
      | w x => trivial
      | t t =>
        rw [ev] at h0' hn
        exact h0'.elim (fun h => h) (fun h => absurd h hn)
    · rw [if_pos rfl]
      trivial
  · rcases hy with hy | rfl
    · rw [cellD y hy]
      obtain ⟨k, h4, hk, hx⟩ := s.co.had y hy
      exact ⟨k, h4, hk, (hR k _ hk).2 (.inr ⟨hD y hy, hx⟩)⟩
    · rw [cellz]
      exact bkz.nw.hd
  · rcases nwR x hx with rfl | hx
    · exact ⟨z, .inr rfl, cellz⟩
    · obtain ⟨y, hy, e⟩ := s.co.prec x hx
      exact ⟨y, .inl hy, by rw [cellD y (c.sub y hy)]; exact e⟩
  · intro C c1 c2 c3 c4
    have hCz : C z := c2 z (.inr rfl) (by rw [cellz]; exact bkz.nw)
    have := s.snap hmk' (fun y => C y ∧ y ≠ z) (fun y hy => (c1 y hy.1).elim (fun h => h) (fun h => absurd h hy.2))
      (fun y hy hn => ⟨c2 y (.inl hy) (by rw [cellD y (c.sub y hy)]; exact nwL _ hn), neA y hy⟩)
      (fun y hy hk h1 k hkl => by
        have hyA : A y := (c1 y hy.1).elim (fun h => h) (fun h => absurd h hy.2)
        have hr := c3 y hy.1 (fun hb' => hk (by rw [cellD y (c.sub y hyA)] at hb'; exact bkR _ (hD y (c.sub y hyA)) hb')) (by show (if y = z then f else M.form y) = 1; rw [if_neg hy.2]; exact h1) k (by show k < (if y = z then n else M.len y); rw [if_neg hy.2]; exact hkl)
        have hr' : V.Has C (if y = z then .w (blank f) else M.fld y k) := hr
        rw [if_neg hy.2] at hr'
        exact V.Has.back hr' (c.closed.plain y hyA h1 k hkl) hzA)
      (fun y hy hk h3 h0 => by
        have hyA : A y := (c1 y hy.1).elim (fun h => h) (fun h => absurd h hy.2)
        have hl := (c.kind y hyA).2 h3
        have hr := c4 y hy.1 (fun hb' => hk (by rw [cellD y (c.sub y hyA)] at hb'; exact bkR _ (hD y (c.sub y hyA)) hb')) (by show (if y = z then f else M.form y) = 3; rw [if_neg hy.2]; exact h3)
          (by show V.Has C (if y = z then .w (blank f) else M.fld y 0); rw [if_neg hy.2]; exact V.Has.mono (fun _ h => h.1) h0)
        have hr' : V.Has C (if y = z then .w (blank f) else M.fld y 1) := hr
        rw [if_neg hy.2] at hr'
        have hn := hnew y hyA 1 (by omega)
        cases ev : M.fld y 1 with
        | w x => trivial
        | t t =>
          rw [ev] at hr' hn
          exact ⟨hr', hn⟩)
    exact fun y hy => hy.elim (fun h => (this y h).1) (fun h => h ▸ hCz)
  · have h12 : H.allocR R (cln n) 12 = R 12 := mvR_far _ (by omega) (by omega)
    refine (s.mw hmk').keep i h12 rfl rfl rfl (fun y hy hd' => hmk y hy (hfree y hd')) (fun x hx => ?_)
    obtain ⟨y, hy, rfl⟩ := s.co.prec x ⟨12, by omega, by omega, hx⟩
    have hCy := c.place y (c.sub y hy)
    have ly := ln_lo (G.cls (M.cell y))
    have hd0 := Geo.ok.field i.ok hCy (i := 0) (by omega) (by omega)
    rw [show M.cell y + 3 + 0 = M.cell y + 3 by omega] at hd0
    refine hdt _ hd0 (fun hh => ?_)
    have := Geo.far i.ok hCy hC (hD y (c.sub y hy))
    omega
  · show V.Has _ (if y = z then .w (blank f) else M.fld y 0) ∨ _
    have h3' : (if y = z then f else M.form y) = 3 := h3
    rcases hy with hy | rfl
    · rw [if_neg (neA y hy)] at h3' ⊢
      rw [cellD y (c.sub y hy)] at hbk ⊢
      obtain ⟨w1, w2⟩ := W y hy h3'
      rw [w1, w2]
      exact (s.kw hmk' y hy h3' (bkR _ (hD y (c.sub y hy)) hbk)).imp (fun h => h.left) (fun h => h)
    · rw [if_pos rfl]
      exact .inl trivial
end
end Go.Proofs.YtclcnepkgjcmcaaDoor
