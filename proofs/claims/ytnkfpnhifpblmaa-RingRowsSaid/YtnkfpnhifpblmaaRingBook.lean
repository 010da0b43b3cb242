/- The law's own book-keeping of rows: three slices in an array, and a map that tells in which row a member stands. -/
import Derived.Test.YtnkfpnhifpblmaaRingRg
import Derived.Test.YtnkfpnhifpblmaaRingMap
namespace Go.Proofs.Ytnkfpnhifpblmaa
open Go.RowKit

/-- numbers below m, none twice: at most m -/
theorem few : ∀ (m : Nat) (l : List Nat), l.Nodup → (∀ x ∈ l, x < m) → l.length ≤ m
  | 0, l, _, h => by
    cases l with
    | nil => simp
    | cons x t => exact absurd (h x (by simp)) (by omega)
  | m + 1, l, hn, h => by
    by_cases hm : m ∈ l
    · have h1 := few m (l.erase m) (hn.erase m) (fun x hx => by
        have hx' := List.mem_of_mem_erase hx
        have := h x hx'
        have hne : x ≠ m := fun e => by
          subst e
          exact (List.Nodup.not_mem_erase hn) hx
        omega)
      rw [List.length_erase_of_mem hm] at h1
      omega
    · have := few m l hn (fun x hx => by
        have := h x hx
        have hne : x ≠ m := fun e => hm (e ▸ hx)
        omega)
      omega
theorem rg_few {n m : Nat} {xs : List Int} {R : Int → List Int} (g : Rg n xs R) (hn : n = 3 * (m + 3)) {k : Int} (k0 : 0 ≤ k) (k1 : k < 3) : (R k).length ≤ m := by
  have hp := g.place k k0 k1
  have := few m ((R k).map fun x => (x / 3).toNat - 3) ?_ ?_
  · simpa using this
  · refine List.Pairwise.map _ ?_ (List.Pairwise.and_mem.1 (g.nodup k k0 k1))
    intro x y ⟨hx, hy, hne⟩ e
    obtain ⟨⟨x0, x1, x2⟩, x3⟩ := hp x hx
    obtain ⟨⟨y0, y1, y2⟩, y3⟩ := hp y hy
    omega
  · intro y hy
    obtain ⟨x, hx, rfl⟩ := List.mem_map.1 hy
    obtain ⟨⟨x0, x1, x2⟩, x3⟩ := hp x hx
    omega

/-- who stands in a row has its row's number at its key -/
def Tie (R : Int → List Int) (S : Int → Option Int) : Prop :=
  (∀ a k, 0 ≤ k → k < 3 → (a ∈ R k ↔ S a = some k)) ∧ ∀ a k, S a = some k → 0 ≤ k ∧ k < 3
/-- the first i of a list have come to the row h -/
def Sj (S : Int → Option Int) (L : List Int) (h : Int) (i : Nat) : Int → Option Int := fun a => if a ∈ L.take i then some h else S a
section
variable {R : Int → List Int} {S : Int → Option Int} {h k x : Int} {L : List Int} {i : Nat}
theorem Sj_zero : Sj S L h 0 = S := by
  funext a
  simp [Sj]
theorem Sj_next (hi : i < L.length) : putS (Sj S L h i) (L.getD i 0) h = Sj S L h (i + 1) := by
  funext a
  unfold putS Sj
  rw [List.take_succ_eq_append_getElem hi, List.getD_eq_getElem?_getD, List.getElem?_eq_getElem hi]
  simp only [Option.getD_some, List.mem_append, List.mem_singleton]
  by_cases e : a = L[i]
  · simp [e]
  · simp [e]
theorem tie_start : Tie (fun _ => []) (fun _ => none) := ⟨fun a k _ _ => by simp, fun a k h => by cases h⟩
theorem tie_join (t : Tie R S) (h0 : 0 ≤ h) (h1 : h < 3) (k0 : 0 ≤ k) (k1 : k < 3) (hne : h ≠ k) : Tie (joinR R h k) (Sj S (R k) h (R k).length) := by
  obtain ⟨t1, t2⟩ := t
  have e : ∀ a, Sj S (R k) h (R k).length a = if a ∈ R k then some h else S a := fun a => by rw [Sj, List.take_length]
  refine ⟨fun a j j0 j1 => ?_, fun a j hj => ?_⟩
  · rw [e]
    have q1 := t1 a k k0 k1
    have q2 := t1 a h h0 h1
    have q3 := t1 a j j0 j1
    unfold joinR
    by_cases ek : j = k
    · subst ek
      rw [if_pos rfl]
      by_cases hm : a ∈ R j
      · simp [hm, hne]
      · simp [hm, ← q1]
    · rw [if_neg ek]
      by_cases eh : j = h
      · subst eh
        rw [if_pos rfl]
        by_cases hm : a ∈ R k
        · simp [hm]
        · simp [hm, q2]
      · rw [if_neg eh]
        by_cases hm : a ∈ R k
        · rw [if_pos hm]
          refine ⟨fun hj => ?_, fun hj => ?_⟩
          · have := (q1.1 hm).symm.trans (q3.1 hj)
            injection this with this
            omega
          · injection hj with hj
            omega
        · rw [if_neg hm, q3]
  · rw [e] at hj
    by_cases hm : a ∈ R k
    · rw [if_pos hm] at hj
      injection hj with hj
      omega
    · rw [if_neg hm] at hj
      exact t2 a j hj
theorem tie_ins (t : Tie R S) (h0 : 0 ≤ h) (h1 : h < 3) (hx : S x = none) : Tie (insR R h x) (putS S x h) := by
  obtain ⟨t1, t2⟩ := t
  refine ⟨fun a j j0 j1 => ?_, fun a j hj => ?_⟩
  · have q1 := t1 a h h0 h1
    have q2 := t1 a j j0 j1
    unfold insR putS
    by_cases ea : a = x
    · subst ea
      rw [if_pos rfl]
      by_cases ej : j = h
      · simp [ej]
      · rw [if_neg ej, q2, hx]
        simp
        omega
    · rw [if_neg ea]
      by_cases ej : j = h
      · subst ej
        rw [if_pos rfl]
        simp [ea, q1]
      · rw [if_neg ej, q2]
  · unfold putS at hj
    by_cases ea : a = x
    · rw [if_pos ea] at hj
      injection hj with hj
      omega
    · rw [if_neg ea] at hj
      exact t2 a j hj
theorem tie_rem (t : Tie R S) (hx : S x = some k) : Tie (remR R k x) (delS S x) := by
  obtain ⟨t1, t2⟩ := t
  obtain ⟨k0, k1⟩ := t2 x k hx
  refine ⟨fun a j j0 j1 => ?_, fun a j hj => ?_⟩
  · have q1 := t1 a k k0 k1
    have q2 := t1 a j j0 j1
    unfold remR delS
    by_cases ea : a = x
    · subst ea
      rw [if_pos rfl]
      by_cases ej : j = k
      · simp [ej]
      · rw [if_neg ej, q2, hx]
        simp
        omega
    · rw [if_neg ea]
      by_cases ej : j = k
      · subst ej
        rw [if_pos rfl]
        simp [ea, q1]
      · rw [if_neg ej, q2]
  · unfold delS at hj
    by_cases ea : a = x
    · rw [if_pos ea] at hj
      cases hj
    · rw [if_neg ea] at hj
      exact t2 a j hj
theorem tie_no (t : Tie R S) (hx : S x = none) : ∀ k, 0 ≤ k → k < 3 → x ∉ R k := fun k k0 k1 hm => by
  have := (t.1 x k k0 k1).1 hm
  rw [hx] at this
  cases this
end

/-- The array of the rows is block g, the map block g + 1; the rows lie behind them. -/
structure Book (g C : Nat) (R : Int → List Int) (V : Nat → Value) (S : Int → Option Int) (w : World) : Prop where
  arr : Lies w g 32 [V 0, V 1, V 2]
  own : ∀ k : Nat, k < 3 → Own w (g + 2) (V k) (R k)
  map : Mp w (g + 1) C S
def updR (R : Int → List Int) (k : Int) (l : List Int) : Int → List Int := fun j => if j = k then l else R j
def updV (V : Nat → Value) (k : Nat) (v : Value) : Nat → Value := fun j => if j = k then v else V j

section
variable {g C : Nat} {R : Int → List Int} {V : Nat → Value} {S : Int → Option Int} {w w' : World} {X : Nat → Prop}
theorem Book.lt (h : Book g C R V S w) : g + 1 < w.heap.size := h.map.lt
theorem Book.turns (h : Book g C R V S w) (k : Turns X w w') (hx : ∀ i, X i → i < g) : Book g C R V S w' :=
  ⟨h.arr.turns k (fun e => by have := hx _ e; omega), fun j hj => (h.own j hj).turns k (fun i hi e => by have := hx _ e; have := ((h.own j hj).lt i hi).1; omega), h.map.turns k (fun e => by have := hx _ e; omega)⟩
theorem Book.at_ (h : Book g C R V S w) {k : Nat} (hk : k < 3) : w.cell? ⟨g, k, none⟩ = some (V k) := by
  rw [h.arr.cell]
  have : k = 0 ∨ k = 1 ∨ k = 2 := by omega
  rcases this with rfl | rfl | rfl <;> rfl
theorem Book.free (h : Book g C R V S w) (k : Nat) : w.frozen? ⟨g, k, none⟩ = false := h.arr.free k
/-- a row is laid into the array -/
theorem Book.set (h : Book g C R V S w) {k : Nat} (hk : k < 3) {v : Value} {l : List Int} (hv : Own w (g + 2) v l) : Book g C (updR R k l) (updV V k v) S (w.setCell ⟨g, k, none⟩ v) := by
  have ht := (Turns.refl (fun i => i = g) w).setCell (p := ⟨g, k, none⟩) (fun _ => rfl) v
  refine ⟨?_, fun j hj => ?_, h.map.turns ht (by omega)⟩
  · have := h.arr.stored k v
    have e : [V 0, V 1, V 2].set k v = [updV V k v 0, updV V k v 1, updV V k v 2] := by
      have : k = 0 ∨ k = 1 ∨ k = 2 := by omega
      rcases this with rfl | rfl | rfl <;> rfl
    rwa [e] at this
  · unfold updR updV
    by_cases e : j = k
    · subst e
      rw [if_pos rfl, if_pos rfl]
      exact hv.turns ht (fun i hi e => by have := (hv.lt i hi).1; omega)
    · rw [if_neg e, if_neg (by omega)]
      exact (h.own j hj).turns ht (fun i hi e => by have := ((h.own j hj).lt i hi).1; omega)
/-- the map was written -/
theorem Book.mapped {C' : Nat} {S' : Int → Option Int} (h : Book g C R V S w) (hm : Mp w' (g + 1) C' S') (hg : w.grownBy w' (some (g + 1))) : Book g C' R V S' w' := by
  have ht : Turns (fun i => i = g + 1) w w' := (Turns.refl _ w).grown hg (fun k hk _ => by injection hk with hk; exact hk.symm)
  exact ⟨h.arr.turns ht (by omega), fun j hj => (h.own j hj).turns ht (fun i hi e => by have := ((h.own j hj).lt i hi).1; omega), hm⟩
theorem Book.mono {C' : Nat} (h : Book g C R V S w) (hc : C ≤ C') : Book g C' R V S w := ⟨h.arr, h.own, h.map.mono hc⟩
theorem Book.congr {R' : Int → List Int} (h : Book g C R V S w) (hR : ∀ k, R k = R' k) : Book g C R' V S w := by
  have : R = R' := funext hR
  subst this
  exact h
theorem joinR_upd {h k : Int} (j : Int) : updR (updR R h (R h ++ R k)) k [] j = joinR R h k j := by
  unfold updR joinR
  rfl
theorem insR_upd {h x : Int} (j : Int) : updR R h (x :: R h) j = insR R h x j := rfl
theorem remR_upd {k x : Int} (j : Int) : updR R k ((R k).filter (fun y => y != x)) j = remR R k x j := rfl
end
end Go.Proofs.Ytnkfpnhifpblmaa
