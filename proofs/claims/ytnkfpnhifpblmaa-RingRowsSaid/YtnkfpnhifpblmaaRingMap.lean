/- A map from ints to ints that the call itself has made, by what it holds at each key. -/
import Derived.Test.YtnkfpnhifpblmaaInts
import Derived.Maps.OwnSet
namespace Go.Proofs.Ytnkfpnhifpblmaa
open Go.RowKit Go.Maps

theorem Try.keyLaw : Keyed Try.prog 3 := int_keyed Try.underlying3
theorem Try.zeroInt (w : World) : (zeroValue 3).run Try.prog w = .ok (.int .i64 0) w := by kernel_rfl
theorem wf_small {a : Int} (h0 : -1000000000 ≤ a) (h1 : a ≤ 1000000000) : (Lit.int .i64 a).wf = true := by
  simp [Lit.wf, IntKind.min, IntKind.max, IntKind.signed, IntKind.bits]
  omega

/-- block q is a map of at most c entries: at the key a it holds what S gives, if any -/
def Mp (w : World) (q c : Nat) (S : Int → Option Int) : Prop :=
  ∃ D : DataW Unit, w.ownsMap Try.prog 3 (plainElem Try.prog 3) q c D ∧ ∀ a, Maps.has D (.int .i64 a) = (S a).isSome ∧ ∀ k, S a = some k → ∀ z, D.atKey (.int .i64 a) z = .lit (.int .i64 k)

section
variable {w w' : World} {q c : Nat} {S : Int → Option Int}
theorem Mp.made (w : World) : Mp (w.alloc (.map #[] 0)) w.heap.size 0 (fun _ => none) :=
  ⟨.map [], World.ownsMap_made w _ _ _, fun a => ⟨rfl, fun k h => by cases h⟩⟩
theorem Mp.lt (h : Mp w q c S) : q < w.heap.size := by
  obtain ⟨D, h, _⟩ := h
  exact h.lt
theorem Mp.turns {X : Nat → Prop} (h : Mp w q c S) (k : Turns X w w') (hx : ¬ X q) : Mp w' q c S := by
  have hlt := h.lt
  obtain ⟨D, ⟨es, clock, hb, r⟩, hD⟩ := h
  exact ⟨D, ⟨es, clock, (k.block q hlt hx).trans hb, r⟩, hD⟩
theorem Mp.mono {c' : Nat} (h : Mp w q c S) (hc : c ≤ c') : Mp w q c' S := by
  obtain ⟨D, h, hD⟩ := h
  exact ⟨D, h.mono hc, hD⟩
/-- a map's block is no row of cells -/
theorem Mp.apart {g : Nat} {t : TypeId} {cs : List Value} (h : Mp w q c S) (k : Lies w g t cs) : q ≠ g := by
  intro e
  subst e
  obtain ⟨D, ⟨es, clock, hb, _⟩, _⟩ := h
  unfold Lies at k
  rw [hb] at k
  cases k
theorem Mp.apart_own {B : Nat} {v : Value} {l : List Int} (h : Mp w q c S) (k : Own w B v l) : ∀ j, v.ownBlock = some j → j ≠ q := by
  intro j hj e
  subst e
  rcases k.2 with ⟨rfl, _⟩ | ⟨g', cap, cur, rfl, _, hh, _⟩
  · simp [Value.ownBlock] at hj
  · have : g' = j := by simpa [Value.ownBlock] using hj
    subst this
    obtain ⟨D, ⟨es, clock, hb, _⟩, _⟩ := h
    rw [hb] at hh
    cases hh

def putS (S : Int → Option Int) (a k : Int) : Int → Option Int := fun b => if b = a then some k else S b
def delS (S : Int → Option Int) (a : Int) : Int → Option Int := fun b => if b = a then none else S b

theorem key_ne {a b : Int} (h : a ≠ b) : Lit.int IntKind.i64 a ≠ Lit.int IntKind.i64 b := fun e => h (by injection e)
theorem wpList_map_put {ops : Array Oper} {rest : List Oper} {o : Oper} {a : Act} {Q : Exit → Act → World → Prop}
    (hg : o.guard = none) (m x v : Operand) (t : TypeId) (hop : o.op = Op.mapUpdate t m x v) (ht : Try.prog.underlying t = some (.map 3 3)) (b k : Int)
    (hm : a.eval m = .map (some q)) (hx : a.eval x = .int .i64 b) (hv : a.eval v = .int .i64 k) (h : Mp w q c S) (hc : c ≤ 1000000000) (hb : (Lit.int .i64 b).wf = true) (hk : (Lit.int .i64 k).wf = true)
    (hK : ∀ w', Mp w' q (c + 1) (putS S b k) → w.grownBy w' (some q) → wpList Try.prog ops Q rest (a.put o.dst undef) w') : wpList Try.prog ops Q (o :: rest) a w := by
  obtain ⟨D, hown, hD⟩ := h
  refine wpList_mapUpdate_own w hg m x v t hop 3 3 Try.keyLaw ht _ q c D hm hown (by unfold maxLen; omega) _ _ _ hx hv (keyOf_int_mk Try.underlying3 hb) _ [] (plainElem_int Try.underlying3 hk) fun w' h1 h2 => hK w' ⟨_, h1, fun y => ?_⟩ h2
  by_cases e : y = b
  · subst e
    rw [putS, if_pos rfl]
    exact ⟨has_put_same hown.isMap (k := .int .i64 y) trivial _, fun k' h z => by
      injection h with h
      subst h
      exact atKey_put_same hown.isMap (k := .int .i64 y) trivial _ z⟩
  · rw [putS, if_neg e, has_put_other (key_ne e)]
    exact ⟨(hD y).1, fun k' h z => by
      rw [atKey_put_other (key_ne e)]
      exact (hD y).2 k' h z⟩
theorem wpList_map_look {ops : Array Oper} {rest : List Oper} {o : Oper} {a : Act} {Q : Exit → Act → World → Prop}
    (hg : o.guard = none) (m x : Operand) (t : TypeId) (hop : o.op = Op.lookup t m x true) (ht : Try.prog.underlying t = some (.map 3 3)) (b : Int)
    (hm : a.eval m = .map (some q)) (hx : a.eval x = .int .i64 b) (h : Mp w q c S) (hb : (Lit.int .i64 b).wf = true)
    (hK : ∀ k, (∀ k', S b = some k' → k = k') → wpList Try.prog ops Q rest (a.put o.dst (.tuple #[.int .i64 k, .bool (S b).isSome])) w) : wpList Try.prog ops Q (o :: rest) a w := by
  obtain ⟨D, hown, hD⟩ := h
  refine wpList_lookup_own_ok_int (w := w) hg m x t hop 3 3 .i64 Try.keyLaw ht Try.underlying3 (Try.zeroInt w) q c D hm hown _ _ hx (keyOf_int_mk Try.underlying3 hb) fun k hk _ => ?_
  rw [(hD b).1]
  exact hK k fun k' h => by
    have := (hD b).2 k' h (.lit (.int .i64 0))
    rw [hk] at this
    injection this with this
    injection this
theorem wpList_map_drop {ops : Array Oper} {rest : List Oper} {o : Oper} {a : Act} {Q : Exit → Act → World → Prop}
    (hg : o.guard = none) (m x : Operand) (t : TypeId) (hop : o.op = Op.call { callee := Callee.builtin Builtin.delete, args := #[m, x], argTypes := #[t, 3] }) (ht : Try.prog.underlying t = some (.map 3 3)) (b : Int)
    (hm : a.eval m = .map (some q)) (hx : a.eval x = .int .i64 b) (h : Mp w q c S) (hb : (Lit.int .i64 b).wf = true)
    (hK : ∀ w', Mp w' q c (delS S b) → w.grownBy w' (some q) → wpList Try.prog ops Q rest (a.put o.dst (.tuple #[])) w') : wpList Try.prog ops Q (o :: rest) a w := by
  obtain ⟨D, hown, hD⟩ := h
  refine wpList_delete_own (w := w) hg m x t 3 hop 3 Try.keyLaw ht _ q c D hm hown _ _ hx (keyOf_int_mk Try.underlying3 hb) fun w' h1 h2 => hK w' ⟨_, h1, fun y => ?_⟩ h2.grown
  by_cases e : y = b
  · subst e
    rw [delS, if_pos rfl]
    exact ⟨has_del_same, fun k' h => by cases h⟩
  · rw [delS, if_neg e, has_del_other (key_ne e)]
    exact ⟨(hD y).1, fun k' h z => by
      rw [atKey_del_other (key_ne e)]
      exact (hD y).2 k' h z⟩
end
end Go.Proofs.Ytnkfpnhifpblmaa
