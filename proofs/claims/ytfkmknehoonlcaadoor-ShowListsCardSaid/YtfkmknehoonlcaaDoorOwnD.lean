/- Data in memory: rows of data within rows, each in a block of its own; how they stay, and append. -/
import Derived.Test.YtfkmknehoonlcaaDoorOwnS
import Derived.Test.YtfkmknehoonlcaaDoorReadMath
namespace Go.Proofs.YtfkmknehoonlcaaDoor
open Go.RowKit

section
variable {w w' : World} {B m n sz : Nat} {e : TypeId} {v x : Value} {xs cs : List Value} {X : Nat → Prop}
/-- one's own row, nil or not, is put behind one's own row -/
theorem run_append_own_row (z : Value) (bytes : Nat) (hinf : (Tryd.prog.info? e).map (fun i => (i.zero, i.size, i.bytes)) = some (some z, sz, bytes)) (hz : z.cells.size = sz) (hsz : 0 < sz) (t ty : TypeId) (ht : Tryd.prog.underlying t = some (.slice e)) {B' : Nat}
    (h : w.ownsRow B e sz v n xs) (k : w.ownsRow B' e sz x m cs) (h1 : ∀ u ∈ cs, u.oneCell' = true) (hlen : n + m ≤ 1000000) (hby : bytes ≤ 1000) (hB : B ≤ w.heap.size) :
    ∃ v' w', (Builtin.append_ #[t, t] ty #[v, x]).run Tryd.prog w = .ok v' w' ∧ w'.ownsRow B e sz v' (n + m) (xs ++ cs) ∧ w.grownBy w' v.ownBlock ∧ (v'.ownBlock = v.ownBlock ∨ v'.ownBlock = some w.heap.size) := by
  obtain ⟨i0, hi, hz0, hz1, hz2⟩ := info_parts hinf
  rcases k.2 with ⟨rfl, hn⟩ | ⟨g, cap, cur, rfl, hb, hh, hc, hm, hs, hcur⟩
  · have hcs : cs = [] := List.eq_nil_of_length_eq_zero (by rw [k.1, hn]; simp)
    subst hcs
    subst hn
    exact ⟨v, w, run_append_owned_none w B t ty e i0 sz ht hi v _ _ h, by rw [List.append_nil]; exact h, World.grownBy.refl w _, .inl rfl⟩
  · have hcells : ∀ j u, cs[j]? = some u → w.cell? ((⟨g, 0, none⟩ : Addr).add j) = some u := by
      intro j u hu
      have hadd : (⟨g, 0, none⟩ : Addr).add j = ⟨g, j, none⟩ := by unfold Addr.add; split <;> simp_all
      rw [hadd, World.ownsRow.cellAt k j (by have := (List.getElem?_eq_some_iff.1 hu).1; have := k.1; omega), hu]
    have hbb : (n + m) * bytes ≤ 140737488355328 := by
      have := Nat.mul_le_mul hlen hby; omega
    obtain ⟨v', w', hr, h2, h3, _, h5⟩ := run_append_own_at (P := Tryd.prog) (ty := ty) w B t e i0 z sz bytes ht hi hz0 hz1 hz2 hz hsz v n xs h ⟨g, 0, none⟩ m cap cs k.1 hcells h1 (by unfold maxLen; omega) hbb hB
    exact ⟨v', w', hr, h2, h3, h5⟩
theorem wp_append_row {o : Oper} {a : Act} {K : Act → World → Prop} {Q : Exit → Act → World → Prop} (z : Value) (bytes : Nat) (hinf : (Tryd.prog.info? e).map (fun i => (i.zero, i.size, i.bytes)) = some (some z, sz, bytes)) (hz : z.cells.size = sz) (hsz : 0 < sz) (s u : Operand) (t : TypeId)
    (ho : o.op = .call { callee := .builtin .append, args := #[s, u], argTypes := #[t, t] }) (ht : Tryd.prog.underlying t = some (.slice e)) {B' : Nat}
    (hs : a.eval s = v) (hu : a.eval u = x) (h : w.ownsRow B e sz v n xs) (k : w.ownsRow B' e sz x m cs) (h1 : ∀ u ∈ cs, u.oneCell' = true) (hlen : n + m ≤ 1000000) (hby : bytes ≤ 1000) (hB : B ≤ w.heap.size)
    (hq : ∀ v' w', w'.ownsRow B e sz v' (n + m) (xs ++ cs) → w.grownBy w' v.ownBlock → (v'.ownBlock = v.ownBlock ∨ v'.ownBlock = some w.heap.size) → K (a.put o.dst v') w') : o.wp Tryd.prog a w K Q := by
  obtain ⟨v', w', hr, h2, h3, h4⟩ := run_append_own_row z bytes hinf hz hsz t o.type ht h k h1 hlen hby hB
  unfold Oper.wp execOp
  simp only [ho, resolve, invoke, builtin, Sem.run_bind, Sem.run_pure, Result.andThen_ok, List.map_toArray, List.map_cons, List.map_nil, hs, hu, hr]
  exact hq v' w' h2 h3 h4
theorem wpList_append_row {ops : Array Oper} {rest : List Oper} {o : Oper} {a : Act} {Q : Exit → Act → World → Prop} (z : Value) (bytes : Nat) (hinf : (Tryd.prog.info? e).map (fun i => (i.zero, i.size, i.bytes)) = some (some z, sz, bytes)) (hz : z.cells.size = sz) (hsz : 0 < sz) (hgd : o.guard = none) (s u : Operand) (t : TypeId)
    (ho : o.op = .call { callee := .builtin .append, args := #[s, u], argTypes := #[t, t] }) (ht : Tryd.prog.underlying t = some (.slice e)) {B' : Nat}
    (hs : a.eval s = v) (hu : a.eval u = x) (h : w.ownsRow B e sz v n xs) (k : w.ownsRow B' e sz x m cs) (h1 : ∀ u ∈ cs, u.oneCell' = true) (hlen : n + m ≤ 1000000) (hby : bytes ≤ 1000) (hB : B ≤ w.heap.size)
    (hq : ∀ v' w', w'.ownsRow B e sz v' (n + m) (xs ++ cs) → w.grownBy w' v.ownBlock → (v'.ownBlock = v.ownBlock ∨ v'.ownBlock = some w.heap.size) → wpList Tryd.prog ops Q rest (a.put o.dst v') w') : wpList Tryd.prog ops Q (o :: rest) a w :=
  wpList_plain hgd fun _ hK => wp_append_row z bytes hinf hz hsz s u t ho ht hs hu h k h1 hlen hby hB fun v' w' h2 h3 h4 => hK _ _ (hq v' w' h2 h3 h4)
theorem step_append_row {ops : Array Oper} {o : Oper} {a : Act} {K : Act → World → Prop} {Q : Exit → Act → World → Prop} {E : Prop} (z : Value) (bytes : Nat) (hinf : (Tryd.prog.info? e).map (fun i => (i.zero, i.size, i.bytes)) = some (some z, sz, bytes)) (hz : z.cells.size = sz) (hsz : 0 < sz) (hgd : o.guard = none) (s u : Operand) (t : TypeId)
    (ho : o.op = .call { callee := .builtin .append, args := #[s, u], argTypes := #[t, t] }) (ht : Tryd.prog.underlying t = some (.slice e)) {B' : Nat}
    (hs : a.eval s = v) (hu : a.eval u = x) (h : w.ownsRow B e sz v n xs) (k : w.ownsRow B' e sz x m cs) (h1 : ∀ u ∈ cs, u.oneCell' = true) (hlen : n + m ≤ 1000000) (hby : bytes ≤ 1000) (hB : B ≤ w.heap.size)
    (hq : ∀ v' w', w'.ownsRow B e sz v' (n + m) (xs ++ cs) → w.grownBy w' v.ownBlock → (v'.ownBlock = v.ownBlock ∨ v'.ownBlock = some w.heap.size) → K (a.put o.dst v') w') :
    if Region.wanted o (yielded ops a.tmps) = true then Oper.wp Tryd.prog o a w K Q else E := by
  rw [if_pos (by simp [Region.wanted, hgd])]
  exact wp_append_row z bytes hinf hz hsz s u t ho ht hs hu h k h1 hlen hby hB hq
end

theorem Tryd.infoDatum : (Tryd.prog.info? 24).map (fun i => (i.zero, i.size, i.bytes)) = some (some (.agg #[.int .i64 0, .int .i64 0, .string ⟨#[]⟩, .slice none 0 0]), 4, 56) := by kernel_rfl
/-- a row's cells: each datum's kind, number, text and items, which lie in rows of their own; S says which blocks these rows may lie in -/
def DatAt (w : World) (S : Nat → Prop) : RM.Dl → List Value → Prop
  | .nil, cs => cs = []
  | .cons k n s is r, cs => ∃ v c1 c2, cs = [.int .i64 k, .int .i64 n, .string ⟨s.toArray⟩, v] ++ c2 ∧ w.ownsRow 0 24 4 v is.len c1 ∧ (∀ g, v.ownBlock = some g → S g) ∧ DatAt w S is c1 ∧ DatAt w S r c2
/-- v is the row of these data -/
def Dat (w : World) (S : Nat → Prop) (v : Value) (d : RM.Dl) : Prop := ∃ cs, w.ownsRow 0 24 4 v d.len cs ∧ (∀ g, v.ownBlock = some g → S g) ∧ DatAt w S d cs
/-- v is the row of these data, in blocks of S, and none of the rows within it lies in v's own block -/
def Its (w : World) (S : Nat → Prop) (v : Value) (d : RM.Dl) : Prop := ∃ cs, w.ownsRow 0 24 4 v d.len cs ∧ (∀ g, v.ownBlock = some g → S g) ∧ DatAt w (fun g => S g ∧ v.ownBlock ≠ some g) d cs
section
variable {w w' : World} {S S' X : Nat → Prop} {B : Nat} {v v' : Value}
theorem DatAt.mono (hS : ∀ g, g < w.heap.size → S g → S' g) : ∀ {d : RM.Dl} {cs : List Value}, DatAt w S d cs → DatAt w S' d cs
  | .nil, _, h => h
  | .cons _ _ _ _ _, _, ⟨v, c1, c2, h1, h2, h3, h4, h5⟩ => ⟨v, c1, c2, h1, h2, fun g hg => hS g (World.ownsRow.lt h2 g hg).2 (h3 g hg), DatAt.mono hS h4, DatAt.mono hS h5⟩
theorem DatAt.turns (k : Turns X w w') (hX : ∀ g, g < w.heap.size → S g → ¬ X g) : ∀ {d : RM.Dl} {cs : List Value}, DatAt w S d cs → DatAt w' S d cs
  | .nil, _, h => h
  | .cons _ _ _ _ _, _, ⟨v, c1, c2, h1, h2, h3, h4, h5⟩ => ⟨v, c1, c2, h1, own_turns h2 k (fun g hg => hX g (World.ownsRow.lt h2 g hg).2 (h3 g hg)), h3, DatAt.turns k hX h4, DatAt.turns k hX h5⟩
theorem DatAt.one : ∀ {d : RM.Dl} {cs : List Value}, DatAt w S d cs → ∀ u ∈ cs, u.oneCell' = true
  | .nil, cs, h => by rw [show cs = [] from h]; simp
  | .cons _ _ _ _ _, cs, ⟨v, c1, c2, h1, h2, h3, h4, h5⟩ => by
    intro u hu
    rw [h1] at hu
    have hv : v.oneCell' = true := by
      rcases h2.2 with ⟨rfl, _⟩ | ⟨g, cap, cur, rfl, _⟩ <;> rfl
    rcases List.mem_append.1 hu with hu | hu
    · simp only [List.mem_cons, List.not_mem_nil, or_false] at hu
      rcases hu with rfl | rfl | rfl | rfl <;> first | rfl | exact hv
    · exact DatAt.one h5 u hu
theorem DatAt.app : ∀ {d e : RM.Dl} {cs es : List Value}, DatAt w S d cs → DatAt w S e es → DatAt w S (d.app e) (cs ++ es)
  | .nil, e, cs, es, h, k => by rw [show cs = [] from h]; exact k
  | .cons _ _ _ _ _, e, cs, es, ⟨v, c1, c2, h1, h2, h3, h4, h5⟩, k => ⟨v, c1, c2 ++ es, by rw [h1, List.append_assoc], h2, h3, h4, DatAt.app h5 k⟩
theorem Dat.mono {d : RM.Dl} (h : Dat w S v d) (hS : ∀ g, g < w.heap.size → S g → S' g) : Dat w S' v d := by
  obtain ⟨cs, h1, h2, h3⟩ := h
  exact ⟨cs, h1, fun g hg => hS g (World.ownsRow.lt h1 g hg).2 (h2 g hg), h3.mono hS⟩
theorem Dat.turns {d : RM.Dl} (h : Dat w S v d) (k : Turns X w w') (hX : ∀ g, g < w.heap.size → S g → ¬ X g) : Dat w' S v d := by
  obtain ⟨cs, h1, h2, h3⟩ := h
  exact ⟨cs, own_turns h1 k (fun g hg => hX g (World.ownsRow.lt h1 g hg).2 (h2 g hg)), h2, h3.turns k hX⟩
theorem Dat.below {d : RM.Dl} (h : Dat w S v d) (k : Below w.heap.size w w') : Dat w' S v d := h.turns (Turns.of_below k (fun _ => False)) (fun _ _ _ h => h)
theorem Dat.nil (w : World) (S : Nat → Prop) : Dat w S (.slice none 0 0) .nil := ⟨[], own_none w 0 _ 4, (fun g hg => by cases hg), rfl⟩
theorem Its.nil (w : World) (S : Nat → Prop) : Its w S (.slice none 0 0) .nil := ⟨[], own_none w 0 _ 4, (fun g hg => by cases hg), rfl⟩
theorem Its.turns {d : RM.Dl} (h : Its w S v d) (k : Turns X w w') (hX : ∀ g, g < w.heap.size → S g → ¬ X g) : Its w' S v d := by
  obtain ⟨cs, h1, h2, h3⟩ := h
  exact ⟨cs, own_turns h1 k (fun g hg => hX g (World.ownsRow.lt h1 g hg).2 (h2 g hg)), h2, h3.turns k (fun g hg hs => hX g hg hs.1)⟩
theorem Its.below {d : RM.Dl} (h : Its w S v d) (k : Below w.heap.size w w') : Its w' S v d := h.turns (Turns.of_below k (fun _ => False)) (fun _ _ _ h => h)
theorem Its.mono {d : RM.Dl} (h : Its w S v d) (hS : ∀ g, g < w.heap.size → S g → S' g) : Its w S' v d := by
  obtain ⟨cs, h1, h2, h3⟩ := h
  exact ⟨cs, h1, fun g hg => hS g (World.ownsRow.lt h1 g hg).2 (h2 g hg), h3.mono (fun g hg hs => ⟨hS g hg hs.1, hs.2⟩)⟩
theorem Its.dat {d : RM.Dl} (h : Its w S v d) : Dat w S v d := by
  obtain ⟨cs, h1, h2, h3⟩ := h
  exact ⟨cs, h1, h2, h3.mono (fun g _ hs => hs.1)⟩
theorem Its.lt {d : RM.Dl} (h : Its w S v d) : ∀ g, v.ownBlock = some g → S g ∧ g < w.heap.size := by
  obtain ⟨cs, h1, h2, _⟩ := h
  exact fun g hg => ⟨h2 g hg, (World.ownsRow.lt h1 g hg).2⟩
theorem Its.read {d : RM.Dl} (h : Its w S v d) : ∃ A c, v = .slice A d.len c := by
  obtain ⟨cs, h1, _⟩ := h
  obtain ⟨A, c, e, _⟩ := own_read h1
  exact ⟨A, c, e⟩
theorem Dat.read {d : RM.Dl} (h : Dat w S v d) : ∃ A c, v = .slice A d.len c := by
  obtain ⟨cs, h1, _⟩ := h
  obtain ⟨A, c, e, _⟩ := own_read h1
  exact ⟨A, c, e⟩
/-- behind an append, in a world w2 that has kept what w had: the new row -/
theorem Its.grew {d e : RM.Dl} {cs es : List Value} {x : Value} {w2 : World} (h0 : ∀ g, v.ownBlock = some g → S g ∧ g < w.heap.size) (h' : DatAt w (fun g => S g ∧ v.ownBlock ≠ some g) d cs)
    (k' : DatAt w (fun g => S g ∧ v.ownBlock ≠ some g) e es) (k2 : Turns (fun _ => False) w w2) (hr : w'.ownsRow 0 24 4 x (d.len + e.len) (cs ++ es)) (hg : w2.grownBy w' v.ownBlock) (hat : x.ownBlock = v.ownBlock ∨ x.ownBlock = some w2.heap.size)
    (hS1 : ∀ g, g < w.heap.size → S g → S' g) (hS2 : S' w2.heap.size) : Its w' S' x (d.app e) := by
  have T := Turns.appendedS hg
  have hs := k2.size
  refine ⟨cs ++ es, by rw [RM.Dl.len_app]; exact hr, ?_, DatAt.mono ?_ (DatAt.turns (S := fun g => (S g ∧ v.ownBlock ≠ some g) ∧ g < w.heap.size) T (fun g _ hs => hs.1.2) (DatAt.turns k2 (fun _ _ _ h => h) (DatAt.mono (fun g hg hs => ⟨hs, hg⟩) (h'.app k'))))⟩
  · intro g hg
    rcases hat with e1 | e1
    · rw [e1] at hg; exact hS1 g (h0 g hg).2 (h0 g hg).1
    · rw [e1] at hg; injection hg with hg; subst hg; exact hS2
  · intro g _ hs
    refine ⟨hS1 g hs.2 hs.1.1, ?_⟩
    rcases hat with e1 | e1
    · rw [e1]; exact hs.1.2
    · rw [e1]
      intro hh
      injection hh with hh
      have := hs.2
      omega
/-- one datum's cells -/
theorem DatAt.cell1 {d : RM.Dm} (h : Dat w S v d.is) : DatAt w S (.one d) [.int .i64 d.k, .int .i64 d.n, .string ⟨d.s.toArray⟩, v] := by
  obtain ⟨cs, h1, h2, h3⟩ := h
  exact ⟨v, cs, [], rfl, h1, h2, h3, rfl⟩
end
end Go.Proofs.YtfkmknehoonlcaaDoor
