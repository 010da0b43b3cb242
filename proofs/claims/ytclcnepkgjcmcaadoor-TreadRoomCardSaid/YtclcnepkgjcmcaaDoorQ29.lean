/- The laws' own things, as they lie in memory; and what is reached, as a list that grows. -/
import Derived.Test.YtclcnepkgjcmcaaDoorQ28
namespace Go.Proofs.YtclcnepkgjcmcaaDoor
open Go.RowKit

/-- the cells of a row of values -/
def vcells (blk : Nat → Nat) (f : Nat → V) : Nat → List Value
  | 0 => []
  | n + 1 => vcells blk f n ++ [vw (f n), vp blk (f n)]
theorem vcells_len (blk : Nat → Nat) (f : Nat → V) : ∀ n, (vcells blk f n).length = n * 2
  | 0 => rfl
  | n + 1 => by
    rw [vcells, List.length_append, vcells_len blk f n]
    simp
    omega
theorem vcells_at (blk : Nat → Nat) (f : Nat → V) : ∀ (n j : Nat), j < n → (vcells blk f n)[j * 2]? = some (vw (f j)) ∧ (vcells blk f n)[j * 2 + 1]? = some (vp blk (f j))
  | 0, j, h => absurd h (by omega)
  | n + 1, j, h => by
    have hl := vcells_len blk f n
    rw [vcells]
    by_cases e : j = n
    · subst e
      rw [List.getElem?_append_right (by omega), List.getElem?_append_right (by omega), hl, show j * 2 - j * 2 = 0 by omega, show j * 2 + 1 - j * 2 = 1 by omega]
      exact ⟨rfl, rfl⟩
    · rw [List.getElem?_append_left (by omega), List.getElem?_append_left (by omega)]
      exact vcells_at blk f n j (by omega)
theorem vcells_congr {blk blk' : Nat → Nat} {f f' : Nat → V} : ∀ {n : Nat}, (∀ j, j < n → vw (f j) = vw (f' j) ∧ vp blk (f j) = vp blk' (f' j)) → vcells blk f n = vcells blk' f' n
  | 0, _ => rfl
  | n + 1, h => by
    rw [vcells, vcells, vcells_congr (n := n) (fun j hj => h j (by omega)), (h n (by omega)).1, (h n (by omega)).2]

/-- v is a slice of just these values, in a row of its own -/
def OwnV (w : World) (B : Nat) (v : Value) (blk : Nat → Nat) (f : Nat → V) (n : Nat) : Prop := w.ownsRow B 39 2 v n (vcells blk f n)
section
variable {w w' : World} {B n : Nat} {v : Value} {blk : Nat → Nat} {f : Nat → V} {X : Nat → Prop}
theorem OwnV.lt (h : OwnV w B v blk f n) : ∀ g, v.ownBlock = some g → B ≤ g ∧ g < w.heap.size := World.ownsRow.lt h
theorem OwnV.turns (h : OwnV w B v blk f n) (k : Turns X w w') (hx : ∀ g, v.ownBlock = some g → ¬ X g) : OwnV w' B v blk f n := by
  have hlt := h.lt
  obtain ⟨h1, h2⟩ := h
  refine ⟨h1, ?_⟩
  rcases h2 with h2 | ⟨g, cap, cur, hv, hg, hh, r⟩
  · exact .inl h2
  · have ho : v.ownBlock = some g := by rw [hv]; rfl
    exact .inr ⟨g, cap, cur, hv, hg, (k.block g (hlt g ho).2 (hx g ho)).trans hh, r⟩
theorem OwnV.read (h : OwnV w B v blk f n) : ∃ A c, v = .slice A n c ∧ ∀ j, j < n → ∃ g, A = some ⟨g, 0, none⟩ ∧ g < w.heap.size ∧ w.cell? ⟨g, j * 2, none⟩ = some (vw (f j)) ∧ w.cell? ⟨g, j * 2 + 1, none⟩ = some (vp blk (f j)) := by
  rcases h.2 with ⟨rfl, hn⟩ | ⟨g, cap, cur, hv, hb, hh, hc, hm, hs, ht⟩
  · have h0 : n = 0 := hn
    exact ⟨none, 0, by rw [h0], fun j hj => by omega⟩
  · refine ⟨some ⟨g, 0, none⟩, cap, hv, fun j hj => ?_⟩
    subst hv
    obtain ⟨a, b⟩ := vcells_at blk f n j hj
    refine ⟨g, rfl, (h.lt g rfl).2, ?_, ?_⟩
    · rw [World.ownsRow.cellAt h (j * 2) (by omega), a]
    · rw [World.ownsRow.cellAt h (j * 2 + 1) (by omega), b]
theorem OwnV.apart {t : TypeId} {cs : List Value} {g : Nat} (h : OwnV w B v blk f n) (k : Lies w g t cs) (ht : 39 ≠ t) : v.ownBlock ≠ some g := fun e => by
  rcases h.2 with ⟨rfl, _⟩ | ⟨g', cap, cur, rfl, _, hh, _⟩
  · simp [Value.ownBlock] at e
  · have : g' = g := by simpa [Value.ownBlock] using e
    subst this
    unfold Lies at k
    have hk := hh.symm.trans k
    simp at hk
    exact ht hk.2
end

/-- The N things M lie in memory: each in its block, its fields in a row of their own. -/
structure Thw (w : World) (B : Nat) (blk : Nat → Nat) (fv : Nat → Value) (M : Md) (N : Nat) : Prop where
  here : ∀ i, i < N → Lies w (blk i) 64 [.int .i64 (M.form i), fv i, .int .u64 (8 * M.cell i + 1)]
  rows : ∀ i, i < N → OwnV w B (fv i) blk (M.fld i) (M.len i)
  inj : ∀ i j, i < N → j < N → blk i = blk j → i = j
  own : ∀ i j, i < N → j < N → i ≠ j → ∀ g, (fv i).ownBlock = some g → (fv j).ownBlock ≠ some g
  named : ∀ i, i < N → ∀ j, j < M.len i → (M.fld i j).Has (fun t => t < N)
  regs : ∀ r, r < 8 → (M.reg r).Has (fun t => t < N)
  len3 : ∀ i, i < N → M.form i = 3 → M.len i = 2
theorem Thw.turns {w w' : World} {B N : Nat} {blk : Nat → Nat} {fv : Nat → Value} {M : Md} {X : Nat → Prop} (h : Thw w B blk fv M N) (k : Turns X w w') (hb : ∀ i, i < N → ¬ X (blk i)) (hf : ∀ i, i < N → ∀ g, (fv i).ownBlock = some g → ¬ X g) : Thw w' B blk fv M N :=
  ⟨fun i hi => (h.here i hi).turns k (hb i hi), fun i hi => (h.rows i hi).turns k (hf i hi), h.inj, h.own, h.named, h.regs, h.len3⟩
theorem Thw.quiet {w w' : World} {B N : Nat} {blk : Nat → Nat} {fv : Nat → Value} {M : Md} (h : Thw w B blk fv M N) (k : Turns (fun _ => False) w w') : Thw w' B blk fv M N := h.turns k (fun _ _ h => h) (fun _ _ _ _ h => h)

/-! what is reached, as a list -/
/-- what a value puts -/
def nkI (is : List Nat) : V → List Nat
  | .w _ => []
  | .t i => if i ∈ is then [] else [i]
theorem nkI_has (is : List Nat) : ∀ v : V, v.Has (fun i => i ∈ is ++ nkI is v)
  | .w _ => trivial
  | .t i => by
    show i ∈ is ++ (if i ∈ is then [] else [i])
    split
    · next h => simpa using h
    · simp
theorem mem_map_blk {blk : Nat → Nat} {N : Nat} (inj : ∀ i j, i < N → j < N → blk i = blk j → i = j) {is : List Nat} (hl : ∀ i ∈ is, i < N) {i : Nat} (hi : i < N) : blk i ∈ is.map blk ↔ i ∈ is := by
  constructor
  · intro h
    obtain ⟨j, hj, e⟩ := List.mem_map.1 h
    rw [← inj j i (hl j hj) hi e]
    exact hj
  · exact fun h => List.mem_map.2 ⟨i, h, rfl⟩
theorem nk_map {blk : Nat → Nat} {N : Nat} (inj : ∀ i j, i < N → j < N → blk i = blk j → i = j) {is : List Nat} (hl : ∀ i ∈ is, i < N) : ∀ (v : V), v.Has (fun t => t < N) → nk blk (is.map blk) v = (nkI is v).map blk
  | .w _, _ => rfl
  | .t i, h => by
    have hm := mem_map_blk inj hl (i := i) h
    show (if blk i ∈ is.map blk then [] else [blk i]) = (if i ∈ is then [] else [i]).map blk
    by_cases e : i ∈ is
    · rw [if_pos e, if_pos (hm.2 e)]
      rfl
    · rw [if_neg e, if_neg (fun h => e (hm.1 h))]
      rfl

/-- What was found, and what of it waits. -/
structure Fnd (M : Md) (N : Nat) (is td : List Nat) : Prop where
  low : ∀ i ∈ is, i < N
  real : ∀ i ∈ is, Reach M i
  nodup : is.Nodup
  sub : ∀ i ∈ td, i ∈ is
  short : td.length ≤ is.length
theorem Fnd.none_ (M : Md) (N : Nat) : Fnd M N [] [] := ⟨fun _ h => (by cases h), fun _ h => (by cases h), List.nodup_nil, fun _ h => (by cases h), Nat.le_refl _⟩
theorem Fnd.le {M : Md} {N : Nat} {is td : List Nat} (h : Fnd M N is td) : is.length ≤ N := pigeon N is h.nodup h.low
theorem Fnd.put {M : Md} {N : Nat} {is td : List Nat} (h : Fnd M N is td) : ∀ {v : V}, v.Has (fun t => t < N) → v.Has (Reach M) → Fnd M N (is ++ nkI is v) (td ++ nkI is v)
  | .w _, _, _ => by
    show Fnd M N (is ++ []) (td ++ [])
    rw [List.append_nil, List.append_nil]
    exact h
  | .t i, hl, hr => by
    show Fnd M N (is ++ (if i ∈ is then [] else [i])) (td ++ (if i ∈ is then [] else [i]))
    by_cases e : i ∈ is
    · rw [if_pos e, List.append_nil, List.append_nil]
      exact h
    · rw [if_neg e]
      refine ⟨fun k hk => ?_, fun k hk => ?_, ?_, fun k hk => ?_, ?_⟩
      · rcases List.mem_append.1 hk with hk | hk
        · exact h.low k hk
        · rw [List.mem_singleton.1 hk]
          exact hl
      · rcases List.mem_append.1 hk with hk | hk
        · exact h.real k hk
        · rw [List.mem_singleton.1 hk]
          exact hr
      · rw [List.nodup_append]
        refine ⟨h.nodup, by simp, fun a ha b hb => ?_⟩
        rw [List.mem_singleton.1 hb]
        exact fun e2 => e (e2 ▸ ha)
      · rcases List.mem_append.1 hk with hk | hk
        · exact List.mem_append.2 (.inl (h.sub k hk))
        · exact List.mem_append.2 (.inr hk)
      · have := h.short
        simp
        omega
/-- what waits is on the way to be done -/
def Pln (M : Md) (is td : List Nat) : Prop := ∀ i ∈ is, i ∉ td → M.form i = 1 → ∀ j, j < M.len i → (M.fld i j).Has (fun t => t ∈ is)
def Rgs (M : Md) (is : List Nat) : Prop := ∀ r, r < 8 → (M.reg r).Has (fun t => t ∈ is)
def Wks (M : Md) (is : List Nat) (n : Nat) : Prop := ∀ i, i < n → i ∈ is → M.form i = 3 → (M.fld i 0).Has (fun t => t ∈ is) → (M.fld i 1).Has (fun t => t ∈ is)
theorem Pln.put {M : Md} {is td : List Nat} (h : Pln M is td) (v : V) : Pln M (is ++ nkI is v) (td ++ nkI is v) := fun i hi hn hf j hj => by
  have hn1 : i ∉ td := fun h => hn (List.mem_append.2 (.inl h))
  have hn2 : i ∉ nkI is v := fun h => hn (List.mem_append.2 (.inr h))
  rcases List.mem_append.1 hi with hi | hi
  · exact V.Has.mono (fun _ h => List.mem_append.2 (.inl h)) (h i hi hn1 hf j hj)
  · exact absurd hi hn2
theorem Rgs.put {M : Md} {is : List Nat} (h : Rgs M is) (v : V) : Rgs M (is ++ nkI is v) := fun r hr => V.Has.mono (fun _ h => List.mem_append.2 (.inl h)) (h r hr)
/-- the end: just what is reached was found -/
theorem found_all {M : Md} {N : Nat} {is : List Nat} (h : Fnd M N is []) (hp : Pln M is []) (hr : Rgs M is) (hw : Wks M is N) (i : Nat) : i ∈ is ↔ Reach M i :=
  ⟨h.real i, fun hi => hi (fun t => t ∈ is) ⟨hr, fun k hk hf j hj => hp k hk (by simp) hf j hj, fun k hk hf h0 => hw k (h.low k hk) hk hf h0⟩⟩
end Go.Proofs.YtclcnepkgjcmcaaDoor

/- The laws' own world: what is reached (what its loops keep). -/
namespace Go.Proofs.YtclcnepkgjcmcaaDoor
open Go.RowKit

/-- Amid the walk: what was found, as the map g (its box c3), what waits, as the slice tv (its box c4). -/
structure Rs (w0 w : World) (g c3 c4 : Nat) (blk : Nat → Nat) (M : Md) (N : Nat) (is td : List Nat) (tv : Value) : Prop where
  map : PMap w g (is.map blk)
  b3 : Lies w c3 33 [.map (some g)]
  b4 : Lies w c4 41 [tv]
  own : OwnP w w0.heap.size tv (td.map blk)
  fnd : Fnd M N is td
  tr : Turns (fun _ => False) w0 w
  lg : w0.heap.size ≤ g
  l3 : w0.heap.size ≤ c3
  l4 : w0.heap.size ≤ c4
section
variable {w0 w w' : World} {g c3 c4 B N : Nat} {blk : Nat → Nat} {fv : Nat → Value} {M : Md} {is td : List Nat} {tv : Value}
theorem Rs.quiet (h : Rs w0 w g c3 c4 blk M N is td tv) (k : Turns (fun _ => False) w w') : Rs w0 w' g c3 c4 blk M N is td tv :=
  ⟨h.map.turns k (fun h => h), h.b3.turns k (fun h => h), h.b4.turns k (fun h => h), h.own.turns k (fun _ _ h => h), h.fnd, h.tr.trans k, h.lg, h.l3, h.l4⟩
theorem Rs.thingy (h : Rs w0 w g c3 c4 blk M N is td tv) (T : Thw w0 B blk fv M N) : Thingy w (is.map blk) := fun b hb => by
  obtain ⟨i, hi, rfl⟩ := List.mem_map.1 hb
  exact ⟨_, (T.here i (h.fnd.low i hi)).turns h.tr (fun h => h)⟩
theorem Rs.put (h : Rs w0 w g c3 c4 blk M N is td tv) (T : Thw w0 B blk fv M N) (hN : N ≤ 100000) (v : V) (hl : v.Has (fun t => t < N)) (hr : v.Has (Reach M)) :
    Calls Tryd.prog 27 #[vg blk v, .pointer (some ⟨c3, 0, none⟩), .pointer (some ⟨c4, 0, none⟩)] w fun e w' => e = .returned (.tuple #[]) ∧ ∃ tv', Rs w0 w' g c3 c4 blk M N (is ++ nkI is v) (td ++ nkI is v) tv' := by
  have hs := h.fnd.short
  have hle := h.fnd.le
  refine (put_any blk v g c3 c4 w0.heap.size (is.map blk) (td.map blk) tv w h.map (h.thingy T) h.b3 h.b4 h.own h.tr.size (by simp; omega) ?_).mono ?_
  · intro i e
    subst e
    exact ⟨_, (T.here i hl).turns h.tr (fun h => h)⟩
  · rintro e w' ⟨rfl, tv', p1, p2, p3, p4, p5⟩
    rw [nk_map T.inj h.fnd.low v hl, ← List.map_append] at p1 p4
    refine ⟨rfl, tv', p1, p2, p3, p4, h.fnd.put hl hr, h.tr.then p5 (fun i hi hx => ?_), h.lg, h.l3, h.l4⟩
    rcases hx with e | e | e
    · have := h.lg; omega
    · have := h.l4; omega
    · have := (h.own.lt i e).1; omega
end
theorem Fnd.pop {M : Md} {N : Nat} {is td : List Nat} {t : Nat} (h : Fnd M N is (td ++ [t])) : Fnd M N is td :=
  ⟨h.low, h.real, h.nodup, fun i hi => h.sub i (by simp [hi]), by have := h.short; simp at this; omega⟩
/-- a slice cut by one -/
theorem OwnP.cut {w : World} {B g n c b : Nat} {l : List Nat} (h : OwnP w B (.slice (some ⟨g, 0, none⟩) n c) (l ++ [b])) : OwnP w B (.slice (some ⟨g, 0, none⟩) l.length c) l := by
  rcases h.2 with ⟨e, _⟩ | ⟨g', cap, cur, e, hb, hh, hc, hm, hs, ht⟩
  · cases e
  · injection e with e1 e2 e3
    injection e1 with e1
    injection e1 with e1 _ _
    subst e1 e3
    simp at ht hc
    refine ⟨by simp, .inr ⟨g, c, cur, rfl, hb, hh, by omega, hm, hs, ?_⟩⟩
    have := congrArg (List.take l.length) ht
    rw [List.take_take, show min l.length (l.length + 1) = l.length by omega] at this
    rw [Nat.mul_one, this]
    simp
/-! the measure -/
def keysOf (w : World) (g : Nat) : Nat := match w.heap[g]? with
  | some (.map _ n) => n
  | _ => 0
def lenOf (w : World) (c : Nat) : Nat := match w.cell? ⟨c, 0, none⟩ with
  | some (.slice _ n _) => n
  | _ => 0
section
variable {w0 w w' : World} {g c3 c4 B N : Nat} {blk : Nat → Nat} {fv : Nat → Value} {M : Md} {is td : List Nat} {tv : Value}
theorem Rs.keys (h : Rs w0 w g c3 c4 blk M N is td tv) : keysOf w g = is.length := by
  have := h.map
  unfold PMap at this
  unfold keysOf
  rw [this]
  simp
theorem Rs.lens (h : Rs w0 w g c3 c4 blk M N is td tv) : lenOf w c4 = td.length := by
  have := h.b4.cell 0
  obtain ⟨A, c, e, _⟩ := h.own.read
  unfold lenOf
  rw [this, e]
  simp
end
section
variable {w0 w w' : World} {g c3 c4 B N : Nat} {blk : Nat → Nat} {fv : Nat → Value} {M : Md} {is td : List Nat} {tv : Value}
/-- the last that waits is taken off -/
theorem Rs.pop {gt n ct t : Nat} (h : Rs w0 w g c3 c4 blk M N is (td ++ [t]) (.slice (some ⟨gt, 0, none⟩) n ct)) :
    Rs w0 (w.setCell ⟨c4, 0, none⟩ (.slice (some ⟨gt, 0, none⟩) td.length ct)) g c3 c4 blk M N is td (.slice (some ⟨gt, 0, none⟩) td.length ct) := by
  have k : Turns (fun k => k = c4) w (w.setCell ⟨c4, 0, none⟩ (.slice (some ⟨gt, 0, none⟩) td.length ct)) := (Turns.refl (fun k => k = c4) w).setCell (p := ⟨c4, 0, none⟩) (fun _ => rfl) _
  have ho := h.own
  rw [List.map_append] at ho
  have hcut := OwnP.cut (b := blk t) ho
  rw [List.length_map] at hcut
  refine ⟨h.map.turns k (h.map.apart h.b4), h.b3.turns k (h.b3.apart h.b4 (by decide)), ?_, hcut.turns k (fun j hj e => hcut.not_lies h.b4 (by decide) (e ▸ hj)), h.fnd.pop, h.tr.then k (fun i hi e => by have := h.l4; omega), h.lg, h.l3, h.l4⟩
  exact h.b4.stored 0 _
theorem Rs.empty (h : Rs w0 w g c3 c4 blk M N is [] tv) : ∃ A c, tv = .slice A 0 c := by
  obtain ⟨A, c, e, _⟩ := h.own.read
  exact ⟨A, c, e⟩
theorem OwnP.room {w : World} {B n c : Nat} {A : Option Addr} {l : List Nat} (h : OwnP w B (.slice A n c) l) : l.length ≤ c := by
  rcases h.2 with ⟨e, hn⟩ | ⟨g', cap, cur, e, hb, hh, hc, hm, hs, ht⟩
  · omega
  · injection e with e1 e2 e3
    omega
theorem Rs.last {t : Nat} (h : Rs w0 w g c3 c4 blk M N is (td ++ [t]) tv) : ∃ gt c, tv = .slice (some ⟨gt, 0, none⟩) (td.length + 1) c ∧ w.cell? ⟨gt, td.length, none⟩ = some (.pointer (some ⟨blk t, 0, none⟩)) ∧ td.length + 1 ≤ c := by
  have ho := h.own
  obtain ⟨A, c, e, hr⟩ := ho.read
  obtain ⟨gt, rfl, _, _, hc⟩ := hr td.length (by simp)
  refine ⟨gt, c, by simpa using e, ?_, ?_⟩
  · rw [hc]
    simp [pv]
  · subst e
    have := ho.room
    simpa using this
end
/-- once t is taken off: t's fields are put one by one -/
def Plx (M : Md) (is td : List Nat) (t j : Nat) : Prop := (∀ i ∈ is, i ∉ td → i ≠ t → M.form i = 1 → ∀ j, j < M.len i → (M.fld i j).Has (fun t => t ∈ is)) ∧ ∀ k, k < j → (M.fld t k).Has (fun t => t ∈ is)
theorem Pln.pop {M : Md} {is td : List Nat} {t : Nat} (h : Pln M is (td ++ [t])) : Plx M is td t 0 :=
  ⟨fun i hi hn he hf j hj => h i hi (by simp [hn, he]) hf j hj, fun k hk => absurd hk (by omega)⟩
theorem Plx.done {M : Md} {is td : List Nat} {t j : Nat} (h : Plx M is td t j) (hj : M.form t = 1 → M.len t ≤ j) : Pln M is td := fun i hi hn hf k hk => by
  by_cases e : i = t
  · subst e
    exact h.2 k (Nat.lt_of_lt_of_le hk (hj hf))
  · exact h.1 i hi hn e hf k hk
theorem Plx.put {M : Md} {is td : List Nat} {t j : Nat} (h : Plx M is td t j) : Plx M (is ++ nkI is (M.fld t j)) (td ++ nkI is (M.fld t j)) t (j + 1) := by
  refine ⟨fun i hi hn he hf k hk => ?_, fun k hk => ?_⟩
  · have hn1 : i ∉ td := fun h => hn (List.mem_append.2 (.inl h))
    have hn2 : i ∉ nkI is (M.fld t j) := fun h => hn (List.mem_append.2 (.inr h))
    rcases List.mem_append.1 hi with hi | hi
    · exact V.Has.mono (fun _ h => List.mem_append.2 (.inl h)) (h.1 i hi hn1 he hf k hk)
    · exact absurd hi hn2
  · by_cases e : k = j
    · subst e
      exact nkI_has is (M.fld t k)
    · exact V.Has.mono (fun _ h => List.mem_append.2 (.inl h)) (h.2 k (by omega))
/-- the registers, one by one -/
def Rgx (M : Md) (is : List Nat) (c : Nat) : Prop := ∀ r, r < c → (M.reg r).Has (fun t => t ∈ is)
theorem Rgx.put {M : Md} {is : List Nat} {c : Nat} (h : Rgx M is c) : Rgx M (is ++ nkI is (M.reg c)) (c + 1) := fun r hr => by
  by_cases e : r = c
  · subst e
    exact nkI_has is (M.reg r)
  · exact V.Has.mono (fun _ h => List.mem_append.2 (.inl h)) (h r (by omega))
/-- while the registers are put all that was found waits -/
def Eqs (is td : List Nat) : Prop := ∀ i ∈ is, i ∈ td
theorem Eqs.put {is td : List Nat} (h : Eqs is td) (v : V) : Eqs (is ++ nkI is v) (td ++ nkI is v) := fun i hi => by
  rcases List.mem_append.1 hi with hi | hi
  · exact List.mem_append.2 (.inl (h i hi))
  · exact List.mem_append.2 (.inr hi)
theorem Eqs.pln {M : Md} {is td : List Nat} (h : Eqs is td) : Pln M is td := fun i hi hn => absurd (h i hi) hn
theorem nkI_len (is : List Nat) (v : V) : (nkI is v).length ≤ 1 := by
  cases v with
  | w x => exact Nat.zero_le _
  | t i =>
    show (if i ∈ is then [] else [i]).length ≤ 1
    split <;> simp
theorem nkI_nil {is : List Nat} {v : V} (h : nkI is v = []) : v.Has (fun t => t ∈ is) := by
  have := nkI_has is v
  rw [h, List.append_nil] at this
  exact this
theorem OwnV.small {w : World} {B n : Nat} {v : Value} {blk : Nat → Nat} {f : Nat → V} (h : OwnV w B v blk f n) : n ≤ maxLen := by
  rcases h.2 with ⟨e, hn⟩ | ⟨g', cap, cur, e, hb, hh, hc, hm, hs, ht⟩
  · omega
  · omega
theorem OwnV.at2 {w : World} {B n n' c : Nat} {A : Option Addr} {blk : Nat → Nat} {f : Nat → V} (h : OwnV w B (.slice A n' c) blk f n) (hn : n = n') {j : Nat} (hj : j < n') :
    ∃ g, A = some ⟨g, 0, none⟩ ∧ g < w.heap.size ∧ w.cell? ⟨g, j * 2, none⟩ = some (vw (f j)) ∧ w.cell? ⟨g, j * 2 + 1, none⟩ = some (vp blk (f j)) := by
  subst hn
  obtain ⟨A', c', e, hr⟩ := h.read
  injection e with e1 e2 e3
  subst e1
  exact hr j hj
theorem put_less {w0 w : World} {g c3 c4 N m : Nat} {blk : Nat → Nat} {M : Md} {is td l : List Nat} {tv : Value} (h : Rs w0 w g c3 c4 blk M N (is ++ l) (td ++ l) tv) (hm : 2 * (N - is.length) + td.length ≤ m) (hl : l.length ≤ 1) :
    2 * (N - (is ++ l).length) + (td ++ l).length ≤ m := by
  have := h.fnd.le
  simp only [List.length_append] at *
  omega
/-- each that is put counts twice, while all is walked -/
theorem put_less2 {w0 w : World} {g c3 c4 N m : Nat} {blk : Nat → Nat} {M : Md} {is td l : List Nat} {tv : Value} (h : Rs w0 w g c3 c4 blk M N (is ++ l) (td ++ l) tv) (hm : 2 * (N - is.length) + 2 * td.length ≤ m) :
    2 * (N - (is ++ l).length) + 2 * (td ++ l).length ≤ m := by
  have := h.fnd.le
  simp only [List.length_append] at *
  omega
theorem Wks.zero (M : Md) (is : List Nat) : Wks M is 0 := fun i hi => absurd hi (by omega)
theorem Wks.skip {M : Md} {is : List Nat} {k : Nat} (h : Wks M is k) (hn : k ∈ is → M.form k = 3 → ¬ (M.fld k 0).Has (fun t => t ∈ is)) : Wks M is (k + 1) := fun i hi hm hf h0 => by
  by_cases e : i = k
  · subst e
    exact absurd h0 (hn hm hf)
  · exact h i (by omega) hm hf h0
theorem Wks.put {M : Md} {is td : List Nat} {k : Nat} (h : td = [] → Wks M is k) : td ++ nkI is (M.fld k 1) = [] → Wks M (is ++ nkI is (M.fld k 1)) (k + 1) := fun e => by
  obtain ⟨e1, e2⟩ := List.append_eq_nil_iff.1 e
  rw [e2, List.append_nil]
  intro i hi hm hf h0
  by_cases e : i = k
  · subst e
    exact nkI_nil e2
  · exact h e1 i (by omega) hm hf h0
theorem OwnP.at_ {w : World} {B n c k N : Nat} {A : Option Addr} {blk : Nat → Nat} (h : OwnP w B (.slice A n c) ((List.range N).map blk)) (hk : k < N) : ∃ g, A = some ⟨g, 0, none⟩ ∧ g < w.heap.size ∧ w.cell? ⟨g, k, none⟩ = some (.pointer (some ⟨blk k, 0, none⟩)) := by
  obtain ⟨g, e, _, hg, hc⟩ := h.cell (j := k) (by simp; exact hk)
  refine ⟨g, e, hg, ?_⟩
  rw [hc]
  simp [pv, hk]
/-- out[t], of a thing there is -/
theorem Rs.look {w0 w : World} {g c3 c4 B N i : Nat} {blk : Nat → Nat} {fv : Nat → Value} {M : Md} {is td : List Nat} {tv : Value} (h : Rs w0 w g c3 c4 blk M N is td tv) (T : Thw w0 B blk fv M N) (hi : i < N) :
    (Instr.lookup 33 (.map (some g)) (.pointer (some ⟨blk i, 0, none⟩)) false).run Tryd.prog w = .ok (.bool (decide (i ∈ is))) w := by
  rw [run_lookup_ptr w ((T.here i hi).turns h.tr (fun h => h)) h.map (h.thingy T)]
  have := mem_map_blk T.inj h.fnd.low hi
  by_cases e : i ∈ is
  · rw [decide_eq_true e, decide_eq_true (this.2 e)]
  · rw [decide_eq_false e, decide_eq_false (fun k => e (this.1 k))]
end Go.Proofs.YtclcnepkgjcmcaaDoor
