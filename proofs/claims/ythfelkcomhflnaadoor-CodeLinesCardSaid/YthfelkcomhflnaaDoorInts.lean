/- Slices of ints that the call itself has made: what they hold, and append of one onto another, either of them nil or not. -/
import Derived.Test.YthfelkcomhflnaaDoorMem
import Derived.Test.YthfelkcomhflnaaDoorRows
import Derived.Maps.AppendAt
import Derived.Deep.AppendLies
import Derived.Laws.OwnMore
import Derived.WalkKit
import Derived.RegionTactic
import Derived.OwnWalk
namespace Go.Proofs.YthfelkcomhflnaaDoor
open Go.RowKit

theorem Tryd.infoInt : (Tryd.prog.info? 3).map (fun i => (i.zero, i.size, i.bytes)) = some (some (.int .i64 0), 1, 8) := by kernel_rfl

/-- v is a slice of just the ints l, nil or in a block of its own from B on -/
def Own (w : World) (B : Nat) (v : Value) (l : List Int) : Prop := w.ownsRow B 3 1 v l.length (l.map (.int .i64))

section
variable {w w' : World} {B g : Nat} {v x : Value} {l lx : List Int} {X : Nat → Prop}
theorem Own.none_ (w : World) (B : Nat) : Own w B (.slice none 0 0) [] := by
  simpa [Own] using World.ownsRow_nil w B 3 1
theorem Own.lt (h : Own w B v l) : ∀ g, v.ownBlock = some g → B ≤ g ∧ g < w.heap.size := World.ownsRow.lt h
theorem Own.turns (h : Own w B v l) (k : Turns X w w') (hx : ∀ g, v.ownBlock = some g → ¬ X g) : Own w' B v l := by
  have hlt := h.lt
  obtain ⟨h1, h2⟩ := h
  refine ⟨h1, ?_⟩
  rcases h2 with h2 | ⟨g, cap, cur, hv, hg, hh, r⟩
  · exact .inl h2
  · have ho : v.ownBlock = some g := by rw [hv]; rfl
    exact .inr ⟨g, cap, cur, hv, hg, (k.block g (hlt g ho).2 (hx g ho)).trans hh, r⟩
theorem Own.below (h : Own w B v l) (k : Below w.heap.size w w') : Own w' B v l := h.turns (Turns.of_below k (fun _ => False)) (fun _ _ h => h)
theorem Own.drewN (h : Own w B v l) (n : Nat) : Own (w.drewN n) B v l := h
theorem Own.base {B' : Nat} (h : Own w B v l) (hB : B' ≤ B) : Own w B' v l := by
  obtain ⟨h1, h2⟩ := h
  refine ⟨h1, ?_⟩
  rcases h2 with h2 | ⟨g, cap, cur, hv, hg, r⟩
  · exact .inl h2
  · exact .inr ⟨g, cap, cur, hv, Nat.le_trans hB hg, r⟩
/-- a block of another type is none of its -/
theorem Own.apart {t : TypeId} {cs : List Value} (h : Own w B v l) (k : Lies w g t cs) (ht : 3 ≠ t) : ∀ j, v.ownBlock = some j → j ≠ g := by
  intro j hj e
  subst e
  rcases h.2 with ⟨rfl, _⟩ | ⟨g', cap, cur, rfl, _, hh, _⟩
  · simp [Value.ownBlock] at hj
  · have : g' = j := by simpa [Value.ownBlock] using hj
    subst this
    unfold Lies at k
    have hk := hh.symm.trans k
    simp at hk
    exact ht hk.2
theorem Own.one (w : World) (a : Int) (hB : B ≤ w.heap.size) : Own (w.alloc (.cells #[.int .i64 a] 3)) B (.slice (some ⟨w.heap.size, 0, none⟩) 1 1) [a] := by
  have := World.ownsRow_lit (base := B) (e := 3) (size := 1) w #[.int .i64 a] 1 hB (by decide) rfl
  simpa [Own] using this
theorem Own.zero (w : World) (hB : B ≤ w.heap.size) : Own (w.alloc (.cells #[] 3)) B (.slice (some ⟨w.heap.size, 0, none⟩) 0 0) [] := by
  have := World.ownsRow_lit (base := B) (e := 3) (size := 1) w #[] 0 hB (by decide) rfl
  simpa [Own] using this
/-- what a reader asks: its length, and each element at its cell -/
theorem Own.read (h : Own w B v l) : ∃ A c, v = .slice A l.length c ∧ ∀ j, j < l.length → ∃ g, A = some ⟨g, 0, none⟩ ∧ B ≤ g ∧ g < w.heap.size ∧ w.cell? ⟨g, j, none⟩ = some (.int .i64 (l.getD j 0)) := by
  rcases h.2 with ⟨rfl, hn⟩ | ⟨g, cap, cur, hv, hb, hh, hc, hm, hs, ht⟩
  · exact ⟨none, 0, by rw [hn], fun j hj => by omega⟩
  · refine ⟨some ⟨g, 0, none⟩, cap, hv, fun j hj => ⟨g, rfl, hb, ?_, ?_⟩⟩
    · by_cases hg : g < w.heap.size
      · exact hg
      · rw [Array.getElem?_eq_none (by omega)] at hh
        exact absurd hh (by simp)
    · subst hv
      have := World.ownsRow.cellAt h j (by omega)
      rw [this, List.getElem?_map, List.getElem?_eq_getElem hj]
      simp [hj]

theorem Own.cell {A : Option Addr} {n c : Nat} (h : Own w B (.slice A n c) l) {j : Nat} (hj : j < l.length) : ∃ g, A = some ⟨g, 0, none⟩ ∧ B ≤ g ∧ g < w.heap.size ∧ w.cell? ⟨g, j, none⟩ = some (.int .i64 (l.getD j 0)) := by
  obtain ⟨A', c', e, hr⟩ := h.read
  injection e with e1 e2 e3
  subst e1
  exact hr j hj

theorem run_append_ints (t ty : TypeId) (ht : Tryd.prog.underlying t = some (.slice 3)) {B' : Nat} (h : Own w B v l) (k : Own w B' x lx) (hlen : l.length + lx.length ≤ 1000000) (hB : B ≤ w.heap.size) :
    ∃ v' w', (Builtin.append_ #[t, t] ty #[v, x]).run Tryd.prog w = .ok v' w' ∧ Own w' B v' (l ++ lx) ∧ w.grownBy w' v.ownBlock ∧ (v'.ownBlock = v.ownBlock ∨ v'.ownBlock = some w.heap.size) := by
  obtain ⟨i0, hi, hz0, hz1, hz2⟩ := info_parts Tryd.infoInt
  rcases k.2 with ⟨rfl, hn⟩ | ⟨g, cap, cur, rfl, hb, hh, hc, hm, hs, hcur⟩
  · have : lx = [] := List.eq_nil_of_length_eq_zero hn
    subst this
    exact ⟨v, w, run_append_owned_none w B t ty 3 i0 1 ht hi v _ _ h, by rw [List.append_nil]; exact h, World.grownBy.refl w _, .inl rfl⟩
  · have hcells : ∀ j u, (lx.map (Value.int .i64))[j]? = some u → w.cell? ((⟨g, 0, none⟩ : Addr).add j) = some u := by
      intro j u hu
      have hadd : (⟨g, 0, none⟩ : Addr).add j = ⟨g, j, none⟩ := by unfold Addr.add; split <;> simp_all
      rw [hadd, World.ownsRow.cellAt k j (by have := (List.getElem?_eq_some_iff.1 hu).1; simpa using this), hu]
    obtain ⟨v', w', hr, h2, h3, _, h5⟩ := run_append_own_at (P := Tryd.prog) (ty := ty) w B t 3 i0 _ 1 8 ht hi hz0 hz1 hz2 rfl (by decide) v _ _ h ⟨g, 0, none⟩ lx.length cap (lx.map (.int .i64)) (by simp) hcells
      (fun u hu => by obtain ⟨_, _, rfl⟩ := List.mem_map.1 hu; rfl) (by unfold maxLen; omega) (by omega) hB
    refine ⟨v', w', hr, ?_, h3, h5⟩
    unfold Own
    rw [List.length_append, List.map_append]
    exact h2

theorem wp_append_ints {o : Oper} {a : Act} {K : Act → World → Prop} {Q : Exit → Act → World → Prop} (s u : Operand) (t : TypeId)
    (ho : o.op = .call { callee := .builtin .append, args := #[s, u], argTypes := #[t, t] }) (ht : Tryd.prog.underlying t = some (.slice 3)) {B' : Nat}
    (hs : a.eval s = v) (hu : a.eval u = x) (h : Own w B v l) (k : Own w B' x lx) (hlen : l.length + lx.length ≤ 1000000) (hB : B ≤ w.heap.size)
    (hq : ∀ v' w', Own w' B v' (l ++ lx) → w.grownBy w' v.ownBlock → (v'.ownBlock = v.ownBlock ∨ v'.ownBlock = some w.heap.size) → K (a.put o.dst v') w') : o.wp Tryd.prog a w K Q := by
  obtain ⟨v', w', hr, h2, h3, h4⟩ := run_append_ints t o.type ht h k hlen hB
  unfold Oper.wp execOp
  simp only [ho, resolve, invoke, builtin, Sem.run_bind, Sem.run_pure, Result.andThen_ok, List.map_toArray, List.map_cons, List.map_nil, hs, hu, hr]
  exact hq v' w' h2 h3 h4
theorem wpList_append_ints {ops : Array Oper} {rest : List Oper} {o : Oper} {a : Act} {Q : Exit → Act → World → Prop} (hgd : o.guard = none) (s u : Operand) (t : TypeId)
    (ho : o.op = .call { callee := .builtin .append, args := #[s, u], argTypes := #[t, t] }) (ht : Tryd.prog.underlying t = some (.slice 3)) {B' : Nat}
    (hs : a.eval s = v) (hu : a.eval u = x) (h : Own w B v l) (k : Own w B' x lx) (hlen : l.length + lx.length ≤ 1000000) (hB : B ≤ w.heap.size)
    (hq : ∀ v' w', Own w' B v' (l ++ lx) → w.grownBy w' v.ownBlock → (v'.ownBlock = v.ownBlock ∨ v'.ownBlock = some w.heap.size) → wpList Tryd.prog ops Q rest (a.put o.dst v') w') : wpList Tryd.prog ops Q (o :: rest) a w :=
  wpList_plain hgd fun _ hK => wp_append_ints s u t ho ht hs hu h k hlen hB fun v' w' h2 h3 h4 => hK _ _ (hq v' w' h2 h3 h4)
theorem step_append_ints {ops : Array Oper} {o : Oper} {a : Act} {K : Act → World → Prop} {Q : Exit → Act → World → Prop} {E : Prop} (hgd : o.guard = none) (s u : Operand) (t : TypeId)
    (ho : o.op = .call { callee := .builtin .append, args := #[s, u], argTypes := #[t, t] }) (ht : Tryd.prog.underlying t = some (.slice 3)) {B' : Nat}
    (hs : a.eval s = v) (hu : a.eval u = x) (h : Own w B v l) (k : Own w B' x lx) (hlen : l.length + lx.length ≤ 1000000) (hB : B ≤ w.heap.size)
    (hq : ∀ v' w', Own w' B v' (l ++ lx) → w.grownBy w' v.ownBlock → (v'.ownBlock = v.ownBlock ∨ v'.ownBlock = some w.heap.size) → K (a.put o.dst v') w') :
    if Region.wanted o (yielded ops a.tmps) = true then Oper.wp Tryd.prog o a w K Q else E := by
  rw [if_pos (by simp [Region.wanted, hgd])]
  exact wp_append_ints s u t ho ht hs hu h k hlen hB hq
/-- what an append turns: its row alone -/
theorem Turns.appended (h : w.grownBy w' v.ownBlock) : Turns (fun g => v.ownBlock = some g) w w' := (Turns.refl _ w).grown h (fun _ hk _ => hk)
end
end Go.Proofs.YthfelkcomhflnaaDoor
