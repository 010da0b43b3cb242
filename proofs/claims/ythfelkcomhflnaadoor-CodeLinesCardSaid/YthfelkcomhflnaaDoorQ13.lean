/- A row of ints of one's own that is appended to, and cut at its end or at its front; the look at code in memory: what is known of each place, and the places from which it didn't go on yet. -/
import Derived.Test.YthfelkcomhflnaaDoorInts
import Derived.Test.YthfelkcomhflnaaDoorQ10
import Derived.Test.YthfelkcomhflnaaDoorQ12
import Derived.ArgAppend
namespace Go.Proofs.YthfelkcomhflnaaDoor
open Go.ChangeShapes Go.WideShapes Go.ChangeAt Go.RowKit Go.Deep

/-- v is a slice of just the ints l, nil or amid a block from B on that is one's own -/
def QOwn (w : World) (B : Nat) (v : Value) (l : List Int) : Prop :=
  (v = .slice none 0 0 ∧ l = []) ∨ ∃ g o c cs, v = .slice (some ⟨g, o, none⟩) l.length c ∧ B ≤ g ∧ Lies w g 3 cs ∧ l.length ≤ c ∧ c ≤ maxLen ∧ o + c ≤ cs.length ∧ ∀ (j : Nat) (x : Int), l[j]? = some x → cs[o + j]? = some (.int .i64 x)
section
variable {w w' : World} {B g : Nat} {v x : Value} {l lx : List Int} {X : Nat → Prop}
theorem QOwn.none_ (w : World) (B : Nat) : QOwn w B (.slice none 0 0) [] := .inl ⟨rfl, rfl⟩
theorem QOwn.lt (h : QOwn w B v l) : ∀ g, v.ownBlock = some g → B ≤ g ∧ g < w.heap.size := by
  intro g hg
  rcases h with ⟨rfl, _⟩ | ⟨g', o, c, cs, rfl, hb, hL, _⟩
  · simp [Value.ownBlock] at hg
  · have : g' = g := by simpa [Value.ownBlock] using hg
    subst this
    exact ⟨hb, hL.lt⟩
theorem QOwn.turns (h : QOwn w B v l) (k : Turns X w w') (hx : ∀ g, v.ownBlock = some g → ¬ X g) : QOwn w' B v l := by
  rcases h with h | ⟨g, o, c, cs, rfl, hb, hL, r⟩
  · exact .inl h
  · exact .inr ⟨g, o, c, cs, rfl, hb, hL.turns k (hx g rfl), r⟩
theorem QOwn.below (h : QOwn w B v l) (k : Below w.heap.size w w') : QOwn w' B v l := h.turns (Turns.of_below k (fun _ => False)) (fun _ _ h => h)
theorem QOwn.read (h : QOwn w B v l) : ∃ A c, v = .slice A l.length c := by
  rcases h with ⟨rfl, rfl⟩ | ⟨g, o, c, cs, rfl, _⟩
  · exact ⟨none, 0, rfl⟩
  · exact ⟨_, c, rfl⟩
theorem QOwn.cell {A : Option Addr} {n c : Nat} (h : QOwn w B (.slice A n c) l) {j : Nat} {y : Int} (hj : l[j]? = some y) : ∃ g o, A = some ⟨g, o, none⟩ ∧ B ≤ g ∧ g < w.heap.size ∧ l.length ≤ c ∧ w.cell? ⟨g, o + j, none⟩ = some (.int .i64 y) := by
  rcases h with ⟨e, rfl⟩ | ⟨g, o, c', cs, e, hb, hL, h1, h2, h3, h4⟩
  · simp at hj
  · injection e with e1 e2 e3
    subst e1 e2 e3
    exact ⟨g, o, rfl, hb, hL.lt, h1, (hL.cell _).trans (h4 j y hj)⟩
/-- cut at its end -/
theorem QOwn.cut {A : Option Addr} {n c m : Nat} (h : QOwn w B (.slice A n c) l) (hm : m ≤ l.length) (h0 : 0 < l.length) : QOwn w B (.slice A m c) (l.take m) := by
  rcases h with ⟨e, rfl⟩ | ⟨g, o, c', cs, e, hb, hL, h1, h2, h3, h4⟩
  · simp at h0
  · injection e with e1 e2 e3
    subst e1 e2 e3
    have hl : (l.take m).length = m := by rw [List.length_take]; omega
    refine .inr ⟨g, o, c, cs, by rw [hl], hb, hL, by omega, h2, h3, fun j x hx => h4 j x ?_⟩
    have hj := (List.getElem?_eq_some_iff.1 hx).1
    rw [hl] at hj
    rw [List.getElem?_take_of_lt hj] at hx
    exact hx
/-- cut at its front -/
theorem QOwn.tail {g o n c : Nat} (h : QOwn w B (.slice (some ⟨g, o, none⟩) n c) l) (h0 : 0 < l.length) (o' : Nat) (ho : 1 < l.length ∨ 1 < c → o' = o + 1) (ho' : o' ≤ o + 1) : QOwn w B (.slice (some ⟨g, o', none⟩) (n - 1) (c - 1)) l.tail := by
  rcases h with ⟨e, rfl⟩ | ⟨g', o2, c', cs, e, hb, hL, h1, h2, h3, h4⟩
  · simp at h0
  · injection e with e1 e2 e3
    injection e1 with e1
    injection e1 with e1 e4
    subst e1 e2 e3 e4
    have hl : l.tail.length = l.length - 1 := List.length_tail
    refine .inr ⟨g, o', c - 1, cs, by rw [hl], hb, hL, by omega, by omega, by omega, fun j x hx => ?_⟩
    have hj := (List.getElem?_eq_some_iff.1 hx).1
    rw [ho (.inl (by omega))]
    rw [List.getElem?_tail] at hx
    have := h4 (j + 1) x hx
    rw [show o + 1 + j = o + (j + 1) by omega]
    exact this
theorem run_append_q (t ty : TypeId) (ht : Tryd.prog.underlying t = some (.slice 3)) (h : QOwn w B v l) {gx : Nat} {a : Int} (hx : w.cell? ⟨gx, 0, none⟩ = some (.int .i64 a)) (hlen : l.length ≤ 1000000) (hB : B ≤ w.heap.size) :
    ∃ v' w', (Builtin.append_ #[t, t] ty #[v, .slice (some ⟨gx, 0, none⟩) 1 1]).run Tryd.prog w = .ok v' w' ∧ QOwn w' B v' (l ++ [a]) ∧ Turns (fun k => v.ownBlock = some k) w w' ∧ (v'.ownBlock = v.ownBlock ∨ v'.ownBlock = some w.heap.size) := by
  obtain ⟨i0, hi, hz0, hz1, hz2⟩ := info_parts Tryd.infoInt
  have hnews : ∀ (w2 : World) (j : Nat) (u : Value), w2.cell? ⟨gx, 0, none⟩ = some (.int .i64 a) → [Value.int .i64 a][j]? = some u → w2.cell? ((⟨gx, 0, none⟩ : Addr).add j) = some u := by
    intro w2 j u h2 hu
    have hj := (List.getElem?_eq_some_iff.1 hu).1
    have hj0 : j = 0 := by simp at hj; exact hj
    subst hj0
    simp only [List.getElem?_cons_zero, Option.some.injEq] at hu
    subst hu
    exact h2
  rcases h with ⟨rfl, rfl⟩ | ⟨g, o, c, cs, rfl, hb, hL, h1, h2, h3, h4⟩
  · have hr := run_append_nil (P := Tryd.prog) w t ty 3 i0 _ ht hi hz0 ⟨gx, 0, none⟩ 1 1 [.int .i64 a] (by rw [hz1]; rfl) (fun j u hu => hnews w j u hx hu) (by omega) (by omega) (by rw [hz2]; omega)
    have hge := grownCap_ge w 1 0 3
    have hle := grownCap_le_maxLen w 1 0 3 (by unfold maxLen; omega)
    refine ⟨_, _, hr, .inr ⟨w.heap.size, 0, _, ([Value.int .i64 a] ++ (Builtin.zeroCells (Value.int .i64 0).cells (grownCap w 1 0 3 - 1)).toList), rfl, hB, ?_, by simpa using hge, hle, ?_, fun j y hy => ?_⟩, (Turns.refl _ w).drew.alloc _, .inr rfl⟩
    · have := Lies.made w.drew 3 (#[Value.int .i64 a] ++ Builtin.zeroCells (Value.int .i64 0).cells (grownCap w 1 0 3 - 1))
      simpa using this
    · have h1 : (Value.int .i64 0).cells.size = 1 := rfl
      simp only [List.length_append, Array.length_toList, size_zeroCells, List.length_cons, List.length_nil, h1]
      omega
    · have hj := (List.getElem?_eq_some_iff.1 hy).1
      have hj0 : j = 0 := by simpa using hj
      subst hj0
      simp at hy
      subst hy
      rfl
  · by_cases hroom : l.length + 1 ≤ c
    · have hr := run_append_room_cells (P := Tryd.prog) (ty := ty) w t 3 i0 ht hi g o l.length c ⟨gx, 0, none⟩ 1 1 [.int .i64 a] (by rw [hz1]; rfl) (fun j u hu => hnews w j u hx hu) (by intro u hu; simp at hu; subst hu; rfl) hroom
        (fun j hj => by
          rw [hL.cell, hz1]
          have hj0 : j = 0 := by simpa using hj
          subst hj0
          rw [List.getElem?_eq_getElem (by omega)]; rfl)
        (fun j hj => hL.free _)
      rw [hz1] at hr
      simp only [World.setCells, Nat.mul_one] at hr
      refine ⟨_, _, hr, .inr ⟨g, o, c, cs.set (o + l.length) (.int .i64 a), by rw [List.length_append]; rfl, hb, hL.stored _ _, by rw [List.length_append]; simpa using hroom, h2, by rw [List.length_set]; exact h3, fun j y hy => ?_⟩, (Turns.refl (fun k => (Value.slice (some ⟨g, o, none⟩) l.length c).ownBlock = some k) w).setCell (p := ⟨g, o + l.length, none⟩) (fun _ => rfl) _, .inl rfl⟩
      rw [List.getElem?_set]
      by_cases hj : j < l.length
      · rw [if_neg (by omega)]
        rw [List.getElem?_append_left hj] at hy
        exact h4 j y hy
      · have hj2 := (List.getElem?_eq_some_iff.1 hy).1
        rw [List.length_append] at hj2
        simp at hj2
        have : j = l.length := by omega
        subst this
        rw [if_pos rfl, if_pos (by omega)]
        rw [List.getElem?_append_right (Nat.le_refl _), Nat.sub_self] at hy
        simp at hy
        subst hy; rfl
    · have holds : ∀ j u, (l.map (Value.int .i64))[j]? = some u → w.cell? ((⟨g, o, none⟩ : Addr).add j) = some u := by
        intro j u hu
        have hadd : (⟨g, o, none⟩ : Addr).add j = ⟨g, o + j, none⟩ := by unfold Addr.add; split <;> simp_all
        rw [hadd, hL.cell]
        rw [List.getElem?_map] at hu
        cases hh : l[j]? with
        | none => rw [hh] at hu; simp at hu
        | some y =>
          rw [hh] at hu
          simp at hu
          subst hu
          exact h4 j y hh
      have hr := run_append_grow (P := Tryd.prog) w t ty 3 i0 _ ht hi hz0 ⟨g, o, none⟩ l.length c (l.map (.int .i64)) (by rw [hz1]; simp) holds ⟨gx, 0, none⟩ 1 1 [.int .i64 a] (by rw [hz1]; rfl) (fun j u hu => hnews w j u hx hu) (by omega) (by omega) (growslice_fits (by omega) (by rw [hz2]; omega))
      have hge := grownCap_ge w (l.length + 1) c 3
      have hle := grownCap_le_maxLen w (l.length + 1) c 3 (by unfold maxLen; omega)
      refine ⟨_, _, hr, .inr ⟨w.heap.size, 0, _, ((l ++ [a]).map (Value.int .i64) ++ (Builtin.zeroCells (Value.int .i64 0).cells (grownCap w (l.length + 1) c 3 - (l.length + 1))).toList), by rw [List.length_append]; rfl, hB, ?_, by rw [List.length_append]; simpa using hge, hle, ?_, fun j y hy => ?_⟩, (Turns.refl _ w).drew.alloc _, .inr rfl⟩
      · have := Lies.made w.drew 3 ((l.map (Value.int .i64)).toArray ++ #[Value.int .i64 a] ++ Builtin.zeroCells (Value.int .i64 0).cells (grownCap w (l.length + 1) c 3 - (l.length + 1)))
        simpa [List.append_assoc] using this
      · have h1 : (Value.int .i64 0).cells.size = 1 := rfl
        simp only [List.length_append, List.length_map, Array.length_toList, size_zeroCells, List.length_cons, List.length_nil, h1]
        omega
      · have hj := (List.getElem?_eq_some_iff.1 hy).1
        rw [Nat.zero_add, List.getElem?_append_left (by rw [List.length_map]; exact hj), List.getElem?_map, hy]
        rfl
theorem wp_append_q {o : Oper} {a : Act} {K : Act → World → Prop} {Q : Exit → Act → World → Prop} (s u : Operand) (t : TypeId)
    (ho : o.op = .call { callee := .builtin .append, args := #[s, u], argTypes := #[t, t] }) (ht : Tryd.prog.underlying t = some (.slice 3)) {gx : Nat} {y : Int}
    (hs : a.eval s = v) (hu : a.eval u = .slice (some ⟨gx, 0, none⟩) 1 1) (h : QOwn w B v l) (hx : w.cell? ⟨gx, 0, none⟩ = some (.int .i64 y)) (hlen : l.length ≤ 1000000) (hB : B ≤ w.heap.size)
    (hq : ∀ v' w', QOwn w' B v' (l ++ [y]) → Turns (fun k => v.ownBlock = some k) w w' → (v'.ownBlock = v.ownBlock ∨ v'.ownBlock = some w.heap.size) → K (a.put o.dst v') w') : o.wp Tryd.prog a w K Q := by
  obtain ⟨v', w', hr, h2, h3, h4⟩ := run_append_q t o.type ht h hx hlen hB
  unfold Oper.wp execOp
  simp only [ho, resolve, invoke, builtin, Sem.run_bind, Sem.run_pure, Result.andThen_ok, List.map_toArray, List.map_cons, List.map_nil, hs, hu, hr]
  exact hq v' w' h2 h3 h4
theorem wpList_append_q {ops : Array Oper} {rest : List Oper} {o : Oper} {a : Act} {Q : Exit → Act → World → Prop} (hgd : o.guard = none) (s u : Operand) (t : TypeId)
    (ho : o.op = .call { callee := .builtin .append, args := #[s, u], argTypes := #[t, t] }) (ht : Tryd.prog.underlying t = some (.slice 3)) {gx : Nat} {y : Int}
    (hs : a.eval s = v) (hu : a.eval u = .slice (some ⟨gx, 0, none⟩) 1 1) (h : QOwn w B v l) (hx : w.cell? ⟨gx, 0, none⟩ = some (.int .i64 y)) (hlen : l.length ≤ 1000000) (hB : B ≤ w.heap.size)
    (hq : ∀ v' w', QOwn w' B v' (l ++ [y]) → Turns (fun k => v.ownBlock = some k) w w' → (v'.ownBlock = v.ownBlock ∨ v'.ownBlock = some w.heap.size) → wpList Tryd.prog ops Q rest (a.put o.dst v') w') : wpList Tryd.prog ops Q (o :: rest) a w :=
  wpList_plain hgd fun _ hK => wp_append_q s u t ho ht hs hu h hx hlen hB fun v' w' h2 h3 h4 => hK _ _ (hq v' w' h2 h3 h4)
end

/-! ### the look at code in memory -/
def nats (l : List Nat) : List Int := l.map (fun (n : Nat) => (n : Int))
/-- in block p: the code, what is known of each place (in block b), the places from which it didn't go on yet, and what else there is -/
structure WSt (w : World) (T : TypeId) (B : Nat) (N : Nat → Prop) (p b : Nat) (cv : Value) (ex : List Value) (S : List (List Int)) (qv : Value) (todo : List Nat) : Prop where
  st : Lies w p T ([cv, .slice (some ⟨b, 0, none⟩) S.length S.length, qv] ++ ex)
  out : ∃ vs, Lies w b 36 vs ∧ vs.length = S.length ∧ ∀ (i : Nat) (s : List Int), S[i]? = some s → ∃ v, vs[i]? = some v ∧ Own w B v s ∧ (s = [] → v = .slice none 0 0) ∧ ∀ g, v.ownBlock = some g → g ≠ p ∧ g ≠ b ∧ qv.ownBlock ≠ some g ∧ ¬ N g
  q : QOwn w B qv (nats todo)
  qa : ∀ g, qv.ownBlock = some g → g ≠ p ∧ g ≠ b ∧ ¬ N g
  ne : p ≠ b
  lo : B ≤ p ∧ B ≤ b
  np : ¬ N p ∧ ¬ N b
section
variable {w w' : World} {T : TypeId} {B p b : Nat} {N : Nat → Prop} {cv qv : Value} {ex : List Value} {S : List (List Int)} {todo : List Nat}
theorem WSt.below (h : WSt w T B N p b cv ex S qv todo) (k : Below w.heap.size w w') : WSt w' T B N p b cv ex S qv todo := by
  obtain ⟨vs, h1, h2, h3⟩ := h.out
  exact ⟨h.st.below k h.st.lt, ⟨vs, h1.below k h1.lt, h2, fun i s hi => by
    obtain ⟨v, q1, q2, q3, q4⟩ := h3 i s hi
    exact ⟨v, q1, q2.below k, q3, q4⟩⟩, h.q.below k, h.qa, h.ne, h.lo, h.np⟩
/-- other blocks may turn -/
theorem WSt.turnsN (h : WSt w T B N p b cv ex S qv todo) (k : Turns N w w') : WSt w' T B N p b cv ex S qv todo := by
  obtain ⟨vs, h1, h2, h3⟩ := h.out
  exact ⟨h.st.turns k h.np.1, ⟨vs, h1.turns k h.np.2, h2, fun i s hi => by
    obtain ⟨v, q1, q2, q3, q4⟩ := h3 i s hi
    exact ⟨v, q1, q2.turns k (fun g hg => (q4 g hg).2.2.2), q3, q4⟩⟩, h.q.turns k (fun g hg => (h.qa g hg).2.2), h.qa, h.ne, h.lo, h.np⟩
theorem WSt.free (h : WSt w T B N p b cv ex S qv todo) : WSt w T B (fun _ => False) p b cv ex S qv todo := by
  obtain ⟨vs, h1, h2, h3⟩ := h.out
  exact ⟨h.st, ⟨vs, h1, h2, fun i s hi => by
    obtain ⟨v, q1, q2, q3, q4⟩ := h3 i s hi
    exact ⟨v, q1, q2, q3, fun g hg => ⟨(q4 g hg).1, (q4 g hg).2.1, (q4 g hg).2.2.1, fun e => e⟩⟩⟩, h.q, fun g hg => ⟨(h.qa g hg).1, (h.qa g hg).2.1, fun e => e⟩, h.ne, h.lo, fun e => e, fun e => e⟩
/-- blocks that aren't there yet are others' -/
theorem WSt.fresh {N' : Nat → Prop} (h : WSt w T B N p b cv ex S qv todo) (hN : ∀ g, N' g → w.heap.size ≤ g) : WSt w T B N' p b cv ex S qv todo := by
  obtain ⟨vs, h1, h2, h3⟩ := h.out
  have hp := h.st.lt
  have hb := h1.lt
  exact ⟨h.st, ⟨vs, h1, h2, fun i s hi => by
    obtain ⟨v, q1, q2, q3, q4⟩ := h3 i s hi
    exact ⟨v, q1, q2, q3, fun g hg => ⟨(q4 g hg).1, (q4 g hg).2.1, (q4 g hg).2.2.1, fun e => by have := hN g e; have := (q2.lt g hg).2; omega⟩⟩⟩, h.q, fun g hg => ⟨(h.qa g hg).1, (h.qa g hg).2.1, fun e => by have := hN g e; have := (h.q.lt g hg).2; omega⟩, h.ne, h.lo, fun e => by have := hN p e; omega, fun e => by have := hN b e; omega⟩
/-- what is known of a place, in memory -/
theorem WSt.get (h : WSt w T B N p b cv ex S qv todo) {i : Nat} {s : List Int} (hi : S[i]? = some s) : ∃ v, w.cell? ⟨b, i, none⟩ = some v ∧ PIn w v s ∧ (s = [] → v = .slice none 0 0) ∧ (s ≠ [] → ∃ g c, v = .slice (some ⟨g, 0, none⟩) s.length c) := by
  obtain ⟨vs, h1, h2, h3⟩ := h.out
  obtain ⟨v, q1, q2, q3, q4⟩ := h3 i s hi
  refine ⟨v, (h1.cell i).trans q1, q2.pin, q3, fun hs => ?_⟩
  obtain ⟨A, c, rfl, hr⟩ := q2.read
  have : 0 < s.length := by cases s with | nil => exact absurd rfl hs | cons => simp
  obtain ⟨g, hg, -⟩ := hr 0 this
  exact ⟨g, c, by rw [hg]⟩
/-- what is known of a place is set -/
theorem WSt.set (h : WSt w T B N p b cv ex S qv todo) {i : Nat} {s : List Int} {v : Value} (hi : i < S.length) (hs : s ≠ []) (hv : Own w B v s) (ha : ∀ g, v.ownBlock = some g → g ≠ p ∧ g ≠ b ∧ qv.ownBlock ≠ some g ∧ ¬ N g) : WSt (w.setCell ⟨b, i, none⟩ v) T B N p b cv ex (S.set i s) qv todo := by
  obtain ⟨vs, h1, h2, h3⟩ := h.out
  have T1 : Turns (fun k => k = b) w (w.setCell ⟨b, i, none⟩ v) := (Turns.refl (fun k => k = b) w).setCell (p := ⟨b, i, none⟩) (fun _ => rfl) v
  refine ⟨?_, ⟨vs.set i v, h1.stored i v, by rw [List.length_set, List.length_set]; exact h2, fun j t hj => ?_⟩, h.q.turns T1 (fun g hg => (h.qa g hg).2.1), h.qa, h.ne, h.lo, h.np⟩
  · have := h.st.far (p := ⟨b, i, none⟩) h.ne v
    rw [List.length_set]
    exact this
  · rw [List.getElem?_set] at hj ⊢
    by_cases e : i = j
    · subst e
      rw [if_pos rfl, if_pos hi] at hj
      rw [if_pos rfl, if_pos (by omega)]
      injection hj with hj
      subst hj
      exact ⟨v, rfl, hv.turns T1 (fun g hg => (ha g hg).2.1), fun e => absurd e hs, ha⟩
    · rw [if_neg e] at hj ⊢
      obtain ⟨u, q1, q2, q3, q4⟩ := h3 j t hj
      exact ⟨u, q1, q2.turns T1 (fun g hg => (q4 g hg).2.1), q3, q4⟩
/-- the row of places is another one, behind an append -/
theorem WSt.put (h : WSt w T B N p b cv ex S qv todo) {v' : Value} {todo' : List Nat} (k : Turns (fun k => qv.ownBlock = some k) w w') (hq : QOwn w' B v' (nats todo')) (ho : v'.ownBlock = qv.ownBlock ∨ ∃ g, v'.ownBlock = some g ∧ w.heap.size ≤ g) (hN : ∀ g, N g → g < w.heap.size) :
    WSt (w'.setCell ⟨p, 2, none⟩ v') T B N p b cv ex S v' todo' := by
  obtain ⟨vs, h1, h2, h3⟩ := h.out
  have hp : ¬ qv.ownBlock = some p := fun e => (h.qa p e).1 rfl
  have hbb : ¬ qv.ownBlock = some b := fun e => (h.qa b e).2.1 rfl
  have L1 := h.st.turns k hp
  have L2 := h1.turns k hbb
  have hpl := h.st.lt
  have hbl := h1.lt
  have T1 : Turns (fun k => k = p) w' (w'.setCell ⟨p, 2, none⟩ v') := (Turns.refl (fun k => k = p) w').setCell (p := ⟨p, 2, none⟩) (fun _ => rfl) v'
  have hqa : ∀ g, v'.ownBlock = some g → g ≠ p ∧ g ≠ b ∧ ¬ N g := fun g hg => by
    rcases ho with ho | ⟨g', ho, hge⟩
    · rw [ho] at hg; exact h.qa g hg
    · rw [ho] at hg; injection hg with hg; subst hg; exact ⟨by omega, by omega, fun e => by have := hN _ e; omega⟩
  refine ⟨by have := L1.stored 2 v'; simpa using this, ⟨vs, L2.far (p := ⟨p, 2, none⟩) (Ne.symm h.ne) v', h2, fun i s hi => ?_⟩, hq.turns T1 (fun g hg => (hqa g hg).1), hqa, h.ne, h.lo, h.np⟩
  obtain ⟨u, q1, q2, q3, q4⟩ := h3 i s hi
  have hul := q2.lt
  refine ⟨u, q1, (q2.turns k (fun g hg => (q4 g hg).2.2.1)).turns T1 (fun g hg => (q4 g hg).1), q3, fun g hg => ⟨(q4 g hg).1, (q4 g hg).2.1, fun e => ?_, (q4 g hg).2.2.2⟩⟩
  rcases ho with ho | ⟨g', ho, hge⟩
  · rw [ho] at e; exact (q4 g hg).2.2.1 e
  · rw [ho] at e; injection e with e; subst e; have := (hul _ hg).2; omega
end
end Go.Proofs.YthfelkcomhflnaaDoor
