/- Slices that the call itself has made, of elements of any fixed number of cells: how they stay, and append of one element. -/
import Derived.Test.YthfelkcomhflnaaDoorMem
import Derived.Maps.AppendAt
import Derived.Deep.AppendLies
import Derived.Laws.OwnMore
import Derived.Laws.BytesString
import Derived.Lib.UnsafeStr
import Derived.WalkKit
import Derived.WalkSpells
import Derived.RegionTactic
import Derived.OwnWalk
import Derived.Test.YthfelkcomhflnaaDoorRows
namespace Go.Proofs.YthfelkcomhflnaaDoor
open Go.RowKit

section
variable {w w' : World} {B g n m sz : Nat} {e : TypeId} {v x : Value} {xs cs : List Value} {X : Nat → Prop}
theorem own_turns (h : w.ownsRow B e sz v n xs) (k : Turns X w w') (hx : ∀ g, v.ownBlock = some g → ¬ X g) : w'.ownsRow B e sz v n xs := by
  have hlt := World.ownsRow.lt h
  obtain ⟨h1, h2⟩ := h
  refine ⟨h1, ?_⟩
  rcases h2 with h2 | ⟨g, cap, cur, hv, hg, hh, r⟩
  · exact .inl h2
  · have ho : v.ownBlock = some g := by rw [hv]; rfl
    exact .inr ⟨g, cap, cur, hv, hg, (k.block g (hlt g ho).2 (hx g ho)).trans hh, r⟩
theorem own_below (h : w.ownsRow B e sz v n xs) (k : Below w.heap.size w w') : w'.ownsRow B e sz v n xs := own_turns h (Turns.of_below k (fun _ => False)) (fun _ _ h => h)
theorem own_base {B' : Nat} (h : w.ownsRow B e sz v n xs) (hB : B' ≤ B) : w.ownsRow B' e sz v n xs := by
  obtain ⟨h1, h2⟩ := h
  refine ⟨h1, ?_⟩
  rcases h2 with h2 | ⟨g, cap, cur, hv, hg, r⟩
  · exact .inl h2
  · exact .inr ⟨g, cap, cur, hv, Nat.le_trans hB hg, r⟩
/-- a store below its base changes nothing of it -/
theorem own_stored (h : w.ownsRow B e sz v n xs) {p : Addr} (hp : p.block < B) (u : Value) : (w.setCell p u).ownsRow B e sz v n xs :=
  own_turns h ((Turns.refl (fun k => k = p.block) w).setCell (fun _ => rfl) u) (fun g hg hh => by have := (World.ownsRow.lt h g hg).1; omega)
/-- what a reader asks: its length, and each cell -/
theorem own_read (h : w.ownsRow B e sz v n xs) : ∃ A c, v = .slice A n c ∧ ∀ j, j < n * sz → ∃ g, A = some ⟨g, 0, none⟩ ∧ B ≤ g ∧ g < w.heap.size ∧ w.cell? ⟨g, j, none⟩ = xs[j]? := by
  have hl := World.ownsRow.lt h
  rcases h.2 with ⟨rfl, hn⟩ | ⟨g, cap, cur, hv, hb, hh, hc, hm, hs, ht⟩
  · exact ⟨none, 0, by rw [hn], fun j hj => by rw [hn] at hj; omega⟩
  · refine ⟨some ⟨g, 0, none⟩, cap, hv, fun j hj => ⟨g, rfl, hb, (hl g (by rw [hv]; rfl)).2, ?_⟩⟩
    subst hv
    exact World.ownsRow.cellAt h j hj
/-- the literal of one element -/
theorem own_one (w : World) (cs : Array Value) (hs : cs.size = sz) (hB : B ≤ w.heap.size) : (w.alloc (.cells cs e)).ownsRow B e sz (.slice (some ⟨w.heap.size, 0, none⟩) 1 1) 1 cs.toList :=
  World.ownsRow_lit (base := B) (e := e) (size := sz) w cs 1 hB (by decide) (by omega)
theorem own_none (w : World) (B : Nat) (e : TypeId) (sz : Nat) : w.ownsRow B e sz (.slice none 0 0) 0 [] := World.ownsRow_nil w B e sz

theorem run_append_own_one (z : Value) (bytes : Nat) (hinf : (Tryd.prog.info? e).map (fun i => (i.zero, i.size, i.bytes)) = some (some z, sz, bytes)) (hz : z.cells.size = sz) (hsz : 0 < sz) (t ty : TypeId) (ht : Tryd.prog.underlying t = some (.slice e)) {B' : Nat}
    (h : w.ownsRow B e sz v n xs) (k : w.ownsRow B' e sz x 1 cs) (h1 : ∀ u ∈ cs, u.oneCell' = true) (hlen : n ≤ 1000000000) (hby : bytes ≤ 1000) (hB : B ≤ w.heap.size) :
    ∃ v' w', (Builtin.append_ #[t, t] ty #[v, x]).run Tryd.prog w = .ok v' w' ∧ w'.ownsRow B e sz v' (n + 1) (xs ++ cs) ∧ w.grownBy w' v.ownBlock ∧ (v'.ownBlock = v.ownBlock ∨ v'.ownBlock = some w.heap.size) := by
  obtain ⟨i0, hi, hz0, hz1, hz2⟩ := info_parts hinf
  rcases k.2 with ⟨rfl, hn⟩ | ⟨g, cap, cur, rfl, hb, hh, hc, hm, hs, hcur⟩
  · omega
  · have hcells : ∀ j u, cs[j]? = some u → w.cell? ((⟨g, 0, none⟩ : Addr).add j) = some u := by
      intro j u hu
      have hadd : (⟨g, 0, none⟩ : Addr).add j = ⟨g, j, none⟩ := by unfold Addr.add; split <;> simp_all
      rw [hadd, World.ownsRow.cellAt k j (by have := (List.getElem?_eq_some_iff.1 hu).1; have := k.1; omega), hu]
    have hbb : (n + 1) * bytes ≤ 140737488355328 := by
      have := Nat.mul_le_mul (show n + 1 ≤ 1000000001 by omega) hby; omega
    obtain ⟨v', w', hr, h2, h3, _, h5⟩ := run_append_own_at (P := Tryd.prog) (ty := ty) w B t e i0 z sz bytes ht hi hz0 hz1 hz2 hz hsz v n xs h ⟨g, 0, none⟩ 1 cap cs k.1 hcells h1 (by unfold maxLen; omega) hbb hB
    exact ⟨v', w', hr, h2, h3, h5⟩
theorem wp_append_own {o : Oper} {a : Act} {K : Act → World → Prop} {Q : Exit → Act → World → Prop} (z : Value) (bytes : Nat) (hinf : (Tryd.prog.info? e).map (fun i => (i.zero, i.size, i.bytes)) = some (some z, sz, bytes)) (hz : z.cells.size = sz) (hsz : 0 < sz) (s u : Operand) (t : TypeId)
    (ho : o.op = .call { callee := .builtin .append, args := #[s, u], argTypes := #[t, t] }) (ht : Tryd.prog.underlying t = some (.slice e)) {B' : Nat}
    (hs : a.eval s = v) (hu : a.eval u = x) (h : w.ownsRow B e sz v n xs) (k : w.ownsRow B' e sz x 1 cs) (h1 : ∀ u ∈ cs, u.oneCell' = true) (hlen : n ≤ 1000000000) (hby : bytes ≤ 1000) (hB : B ≤ w.heap.size)
    (hq : ∀ v' w', w'.ownsRow B e sz v' (n + 1) (xs ++ cs) → w.grownBy w' v.ownBlock → (v'.ownBlock = v.ownBlock ∨ v'.ownBlock = some w.heap.size) → K (a.put o.dst v') w') : o.wp Tryd.prog a w K Q := by
  obtain ⟨v', w', hr, h2, h3, h4⟩ := run_append_own_one z bytes hinf hz hsz t o.type ht h k h1 hlen hby hB
  unfold Oper.wp execOp
  simp only [ho, resolve, invoke, builtin, Sem.run_bind, Sem.run_pure, Result.andThen_ok, List.map_toArray, List.map_cons, List.map_nil, hs, hu, hr]
  exact hq v' w' h2 h3 h4
theorem wpList_append_own {ops : Array Oper} {rest : List Oper} {o : Oper} {a : Act} {Q : Exit → Act → World → Prop} (z : Value) (bytes : Nat) (hinf : (Tryd.prog.info? e).map (fun i => (i.zero, i.size, i.bytes)) = some (some z, sz, bytes)) (hz : z.cells.size = sz) (hsz : 0 < sz) (hgd : o.guard = none) (s u : Operand) (t : TypeId)
    (ho : o.op = .call { callee := .builtin .append, args := #[s, u], argTypes := #[t, t] }) (ht : Tryd.prog.underlying t = some (.slice e)) {B' : Nat}
    (hs : a.eval s = v) (hu : a.eval u = x) (h : w.ownsRow B e sz v n xs) (k : w.ownsRow B' e sz x 1 cs) (h1 : ∀ u ∈ cs, u.oneCell' = true) (hlen : n ≤ 1000000000) (hby : bytes ≤ 1000) (hB : B ≤ w.heap.size)
    (hq : ∀ v' w', w'.ownsRow B e sz v' (n + 1) (xs ++ cs) → w.grownBy w' v.ownBlock → (v'.ownBlock = v.ownBlock ∨ v'.ownBlock = some w.heap.size) → wpList Tryd.prog ops Q rest (a.put o.dst v') w') : wpList Tryd.prog ops Q (o :: rest) a w :=
  wpList_plain hgd fun _ hK => wp_append_own z bytes hinf hz hsz s u t ho ht hs hu h k h1 hlen hby hB fun v' w' h2 h3 h4 => hK _ _ (hq v' w' h2 h3 h4)
theorem step_append_own {ops : Array Oper} {o : Oper} {a : Act} {K : Act → World → Prop} {Q : Exit → Act → World → Prop} {E : Prop} (z : Value) (bytes : Nat) (hinf : (Tryd.prog.info? e).map (fun i => (i.zero, i.size, i.bytes)) = some (some z, sz, bytes)) (hz : z.cells.size = sz) (hsz : 0 < sz) (hgd : o.guard = none) (s u : Operand) (t : TypeId)
    (ho : o.op = .call { callee := .builtin .append, args := #[s, u], argTypes := #[t, t] }) (ht : Tryd.prog.underlying t = some (.slice e)) {B' : Nat}
    (hs : a.eval s = v) (hu : a.eval u = x) (h : w.ownsRow B e sz v n xs) (k : w.ownsRow B' e sz x 1 cs) (h1 : ∀ u ∈ cs, u.oneCell' = true) (hlen : n ≤ 1000000000) (hby : bytes ≤ 1000) (hB : B ≤ w.heap.size)
    (hq : ∀ v' w', w'.ownsRow B e sz v' (n + 1) (xs ++ cs) → w.grownBy w' v.ownBlock → (v'.ownBlock = v.ownBlock ∨ v'.ownBlock = some w.heap.size) → K (a.put o.dst v') w') :
    if Region.wanted o (yielded ops a.tmps) = true then Oper.wp Tryd.prog o a w K Q else E := by
  rw [if_pos (by simp [Region.wanted, hgd])]
  exact wp_append_own z bytes hinf hz hsz s u t ho ht hs hu h k h1 hlen hby hB hq
theorem Turns.appendedS (h : w.grownBy w' v.ownBlock) : Turns (fun g => v.ownBlock = some g) w w' := (Turns.refl _ w).grown h (fun _ hk _ => hk)
end

end Go.Proofs.YthfelkcomhflnaaDoor

/- One's own row put behind one's own row, whatever the elements are: append. -/
namespace Go.Proofs.YthfelkcomhflnaaDoor
open Go.RowKit

section
variable {w w' : World} {B m n sz : Nat} {e : TypeId} {v x : Value} {xs cs : List Value} {X : Nat → Prop}
/-- one's own row, nil or not, is put behind one's own row -/
theorem run_append_own_row (z : Value) (bytes : Nat) (hinf : (Tryd.prog.info? e).map (fun i => (i.zero, i.size, i.bytes)) = some (some z, sz, bytes)) (hz : z.cells.size = sz) (hsz : 0 < sz) (t ty : TypeId) (ht : Tryd.prog.underlying t = some (.slice e)) {B' : Nat}
    (h : w.ownsRow B e sz v n xs) (k : w.ownsRow B' e sz x m cs) (h1 : ∀ u ∈ cs, u.oneCell' = true) (hlen : n + m ≤ 1000000) (hby : bytes ≤ 1000) (hB : B ≤ w.heap.size) :
    ∃ v' w', (Builtin.append_ #[t, t] ty #[v, x]).run Tryd.prog w = .ok v' w' ∧ w'.ownsRow B e sz v' (n + m) (xs ++ cs) ∧ w.grownBy w' v.ownBlock ∧ (v'.ownBlock = v.ownBlock ∨ v'.ownBlock = some w.heap.size) := by
  obtain ⟨i0, hi, hz0, hz1, hz2⟩ := info_parts hinf
  rcases k.2 with ⟨rfl, hn⟩ | ⟨g, cap, cur, rfl, hb, hh, hc, hm, hs, hcur⟩
  · have hcs : cs = [] := List.eq_nil_of_length_eq_zero (by rw [k.1, hn]; simp)
    subst hcs
    subst hn
    exact ⟨v, w, run_append_owned_none w B t ty e i0 sz ht hi v _ _ h, by rw [List.append_nil]; exact h, World.grownBy.refl w _, .inl rfl⟩
  · have hcells : ∀ j u, cs[j]? = some u → w.cell? ((⟨g, 0, none⟩ : Addr).add j) = some u := by
      intro j u hu
      have hadd : (⟨g, 0, none⟩ : Addr).add j = ⟨g, j, none⟩ := by unfold Addr.add; split <;> simp_all
      rw [hadd, World.ownsRow.cellAt k j (by have := (List.getElem?_eq_some_iff.1 hu).1; have := k.1; omega), hu]
    have hbb : (n + m) * bytes ≤ 140737488355328 := by
      have := Nat.mul_le_mul hlen hby; omega
    obtain ⟨v', w', hr, h2, h3, _, h5⟩ := run_append_own_at (P := Tryd.prog) (ty := ty) w B t e i0 z sz bytes ht hi hz0 hz1 hz2 hz hsz v n xs h ⟨g, 0, none⟩ m cap cs k.1 hcells h1 (by unfold maxLen; omega) hbb hB
    exact ⟨v', w', hr, h2, h3, h5⟩
theorem wp_append_row {o : Oper} {a : Act} {K : Act → World → Prop} {Q : Exit → Act → World → Prop} (z : Value) (bytes : Nat) (hinf : (Tryd.prog.info? e).map (fun i => (i.zero, i.size, i.bytes)) = some (some z, sz, bytes)) (hz : z.cells.size = sz) (hsz : 0 < sz) (s u : Operand) (t : TypeId)
    (ho : o.op = .call { callee := .builtin .append, args := #[s, u], argTypes := #[t, t] }) (ht : Tryd.prog.underlying t = some (.slice e)) {B' : Nat}
    (hs : a.eval s = v) (hu : a.eval u = x) (h : w.ownsRow B e sz v n xs) (k : w.ownsRow B' e sz x m cs) (h1 : ∀ u ∈ cs, u.oneCell' = true) (hlen : n + m ≤ 1000000) (hby : bytes ≤ 1000) (hB : B ≤ w.heap.size)
    (hq : ∀ v' w', w'.ownsRow B e sz v' (n + m) (xs ++ cs) → w.grownBy w' v.ownBlock → (v'.ownBlock = v.ownBlock ∨ v'.ownBlock = some w.heap.size) → K (a.put o.dst v') w') : o.wp Tryd.prog a w K Q := by
  obtain ⟨v', w', hr, h2, h3, h4⟩ := run_append_own_row z bytes hinf hz hsz t o.type ht h k h1 hlen hby hB
  unfold Oper.wp execOp
  simp only [ho, resolve, invoke, builtin, Sem.run_bind, Sem.run_pure, Result.andThen_ok, List.map_toArray, List.map_cons, List.map_nil, hs, hu, hr]
  exact hq v' w' h2 h3 h4
theorem wpList_append_row {ops : Array Oper} {rest : List Oper} {o : Oper} {a : Act} {Q : Exit → Act → World → Prop} (z : Value) (bytes : Nat) (hinf : (Tryd.prog.info? e).map (fun i => (i.zero, i.size, i.bytes)) = some (some z, sz, bytes)) (hz : z.cells.size = sz) (hsz : 0 < sz) (hgd : o.guard = none) (s u : Operand) (t : TypeId)
    (ho : o.op = .call { callee := .builtin .append, args := #[s, u], argTypes := #[t, t] }) (ht : Tryd.prog.underlying t = some (.slice e)) {B' : Nat}
    (hs : a.eval s = v) (hu : a.eval u = x) (h : w.ownsRow B e sz v n xs) (k : w.ownsRow B' e sz x m cs) (h1 : ∀ u ∈ cs, u.oneCell' = true) (hlen : n + m ≤ 1000000) (hby : bytes ≤ 1000) (hB : B ≤ w.heap.size)
    (hq : ∀ v' w', w'.ownsRow B e sz v' (n + m) (xs ++ cs) → w.grownBy w' v.ownBlock → (v'.ownBlock = v.ownBlock ∨ v'.ownBlock = some w.heap.size) → wpList Tryd.prog ops Q rest (a.put o.dst v') w') : wpList Tryd.prog ops Q (o :: rest) a w :=
  wpList_plain hgd fun _ hK => wp_append_row z bytes hinf hz hsz s u t ho ht hs hu h k h1 hlen hby hB fun v' w' h2 h3 h4 => hK _ _ (hq v' w' h2 h3 h4)
theorem step_append_row {ops : Array Oper} {o : Oper} {a : Act} {K : Act → World → Prop} {Q : Exit → Act → World → Prop} {E : Prop} (z : Value) (bytes : Nat) (hinf : (Tryd.prog.info? e).map (fun i => (i.zero, i.size, i.bytes)) = some (some z, sz, bytes)) (hz : z.cells.size = sz) (hsz : 0 < sz) (hgd : o.guard = none) (s u : Operand) (t : TypeId)
    (ho : o.op = .call { callee := .builtin .append, args := #[s, u], argTypes := #[t, t] }) (ht : Tryd.prog.underlying t = some (.slice e)) {B' : Nat}
    (hs : a.eval s = v) (hu : a.eval u = x) (h : w.ownsRow B e sz v n xs) (k : w.ownsRow B' e sz x m cs) (h1 : ∀ u ∈ cs, u.oneCell' = true) (hlen : n + m ≤ 1000000) (hby : bytes ≤ 1000) (hB : B ≤ w.heap.size)
    (hq : ∀ v' w', w'.ownsRow B e sz v' (n + m) (xs ++ cs) → w.grownBy w' v.ownBlock → (v'.ownBlock = v.ownBlock ∨ v'.ownBlock = some w.heap.size) → K (a.put o.dst v') w') :
    if Region.wanted o (yielded ops a.tmps) = true then Oper.wp Tryd.prog o a w K Q else E := by
  rw [if_pos (by simp [Region.wanted, hgd])]
  exact wp_append_row z bytes hinf hz hsz s u t ho ht hs hu h k h1 hlen hby hB hq
end

end Go.Proofs.YthfelkcomhflnaaDoor
