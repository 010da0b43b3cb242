/- Slices of pointers to things that the call itself has made: what they hold, and append of one onto another, either of them nil or not. -/
import Derived.Test.YtclcnepkgjcmcaaDoorMem
import Derived.Test.YtclcnepkgjcmcaaDoorQ27
import Derived.Test.YtclcnepkgjcmcaaDoorRows
import Derived.Maps.AppendAt
import Derived.Deep.AppendLies
import Derived.Laws.OwnMore
import Derived.WalkKit
import Derived.RegionTactic
import Derived.OwnWalk
namespace Go.Proofs.YtclcnepkgjcmcaaDoor
open Go.RowKit

/-- a pointer to a block's first cell -/
def pv (b : Nat) : Value := .pointer (some ⟨b, 0, none⟩)
theorem Tryd.infoPtr : (Tryd.prog.info? 37).map (fun i => (i.zero, i.size, i.bytes)) = some (some (.pointer none), 1, 8) := by kernel_rfl

/-- v is a slice of just the blocks l, nil or in a block of its own from B on -/
def OwnP (w : World) (B : Nat) (v : Value) (l : List Nat) : Prop := w.ownsRow B 37 1 v l.length (l.map pv)

section
variable {w w' : World} {B g : Nat} {v x : Value} {l lx : List Nat} {X : Nat → Prop}
theorem OwnP.none_ (w : World) (B : Nat) : OwnP w B (.slice none 0 0) [] := by
  simpa [OwnP] using World.ownsRow_nil w B 37 1
theorem OwnP.lt (h : OwnP w B v l) : ∀ g, v.ownBlock = some g → B ≤ g ∧ g < w.heap.size := World.ownsRow.lt h
theorem OwnP.turns (h : OwnP w B v l) (k : Turns X w w') (hx : ∀ g, v.ownBlock = some g → ¬ X g) : OwnP w' B v l := by
  have hlt := h.lt
  obtain ⟨h1, h2⟩ := h
  refine ⟨h1, ?_⟩
  rcases h2 with h2 | ⟨g, cap, cur, hv, hg, hh, r⟩
  · exact .inl h2
  · have ho : v.ownBlock = some g := by rw [hv]; rfl
    exact .inr ⟨g, cap, cur, hv, hg, (k.block g (hlt g ho).2 (hx g ho)).trans hh, r⟩
theorem OwnP.below (h : OwnP w B v l) (k : Below w.heap.size w w') : OwnP w' B v l := h.turns (Turns.of_below k (fun _ => False)) (fun _ _ h => h)
theorem OwnP.drewN (h : OwnP w B v l) (n : Nat) : OwnP (w.drewN n) B v l := h
theorem OwnP.base {B' : Nat} (h : OwnP w B v l) (hB : B' ≤ B) : OwnP w B' v l := by
  obtain ⟨h1, h2⟩ := h
  refine ⟨h1, ?_⟩
  rcases h2 with h2 | ⟨g, cap, cur, hv, hg, r⟩
  · exact .inl h2
  · exact .inr ⟨g, cap, cur, hv, Nat.le_trans hB hg, r⟩
/-- a block of another type is none of its -/
theorem OwnP.apart {t : TypeId} {cs : List Value} (h : OwnP w B v l) (k : Lies w g t cs) (ht : 37 ≠ t) : ∀ j, v.ownBlock = some j → j ≠ g := by
  intro j hj e
  subst e
  rcases h.2 with ⟨rfl, _⟩ | ⟨g', cap, cur, rfl, _, hh, _⟩
  · simp [Value.ownBlock] at hj
  · have : g' = j := by simpa [Value.ownBlock] using hj
    subst this
    unfold Lies at k
    have hk := hh.symm.trans k
    simp at hk
    exact ht hk.2
theorem OwnP.one (w : World) (a : Nat) (hB : B ≤ w.heap.size) : OwnP (w.alloc (.cells #[pv a] 37)) B (.slice (some ⟨w.heap.size, 0, none⟩) 1 1) [a] := by
  have := World.ownsRow_lit (base := B) (e := 37) (size := 1) w #[pv a] 1 hB (by decide) rfl
  simpa [OwnP] using this
theorem OwnP.zero (w : World) (hB : B ≤ w.heap.size) : OwnP (w.alloc (.cells #[] 37)) B (.slice (some ⟨w.heap.size, 0, none⟩) 0 0) [] := by
  have := World.ownsRow_lit (base := B) (e := 37) (size := 1) w #[] 0 hB (by decide) rfl
  simpa [OwnP] using this
/-- what a reader asks: its length, and each element at its cell -/
theorem OwnP.read (h : OwnP w B v l) : ∃ A c, v = .slice A l.length c ∧ ∀ j, j < l.length → ∃ g, A = some ⟨g, 0, none⟩ ∧ B ≤ g ∧ g < w.heap.size ∧ w.cell? ⟨g, j, none⟩ = some (pv (l.getD j 0)) := by
  rcases h.2 with ⟨rfl, hn⟩ | ⟨g, cap, cur, hv, hb, hh, hc, hm, hs, ht⟩
  · exact ⟨none, 0, by rw [hn], fun j hj => by omega⟩
  · refine ⟨some ⟨g, 0, none⟩, cap, hv, fun j hj => ⟨g, rfl, hb, ?_, ?_⟩⟩
    · by_cases hg : g < w.heap.size
      · exact hg
      · rw [Array.getElem?_eq_none (by omega)] at hh
        exact absurd hh (by simp)
    · subst hv
      have := World.ownsRow.cellAt h j (by omega)
      rw [this, List.getElem?_map, List.getElem?_eq_getElem hj]
      simp [hj]

theorem OwnP.cell {A : Option Addr} {n c : Nat} (h : OwnP w B (.slice A n c) l) {j : Nat} (hj : j < l.length) : ∃ g, A = some ⟨g, 0, none⟩ ∧ B ≤ g ∧ g < w.heap.size ∧ w.cell? ⟨g, j, none⟩ = some (pv (l.getD j 0)) := by
  obtain ⟨A', c', e, hr⟩ := h.read
  injection e with e1 e2 e3
  subst e1
  exact hr j hj

theorem run_append_ptrs (t ty : TypeId) (ht : Tryd.prog.underlying t = some (.slice 37)) {B' : Nat} (h : OwnP w B v l) (k : OwnP w B' x lx) (hlen : l.length + lx.length ≤ 1000000) (hB : B ≤ w.heap.size) :
    ∃ v' w', (Builtin.append_ #[t, t] ty #[v, x]).run Tryd.prog w = .ok v' w' ∧ OwnP w' B v' (l ++ lx) ∧ w.grownBy w' v.ownBlock ∧ (v'.ownBlock = v.ownBlock ∨ v'.ownBlock = some w.heap.size) := by
  obtain ⟨i0, hi, hz0, hz1, hz2⟩ := info_parts Tryd.infoPtr
  rcases k.2 with ⟨rfl, hn⟩ | ⟨g, cap, cur, rfl, hb, hh, hc, hm, hs, hcur⟩
  · have : lx = [] := List.eq_nil_of_length_eq_zero hn
    subst this
    exact ⟨v, w, run_append_owned_none w B t ty 37 i0 1 ht hi v _ _ h, by rw [List.append_nil]; exact h, World.grownBy.refl w _, .inl rfl⟩
  · have hcells : ∀ j u, (lx.map (pv))[j]? = some u → w.cell? ((⟨g, 0, none⟩ : Addr).add j) = some u := by
      intro j u hu
      have hadd : (⟨g, 0, none⟩ : Addr).add j = ⟨g, j, none⟩ := by unfold Addr.add; split <;> simp_all
      rw [hadd, World.ownsRow.cellAt k j (by have := (List.getElem?_eq_some_iff.1 hu).1; simpa using this), hu]
    obtain ⟨v', w', hr, h2, h3, _, h5⟩ := run_append_own_at (P := Tryd.prog) (ty := ty) w B t 37 i0 _ 1 8 ht hi hz0 hz1 hz2 rfl (by decide) v _ _ h ⟨g, 0, none⟩ lx.length cap (lx.map pv) (by simp) hcells
      (fun u hu => by obtain ⟨_, _, rfl⟩ := List.mem_map.1 hu; rfl) (by unfold maxLen; omega) (by omega) hB
    refine ⟨v', w', hr, ?_, h3, h5⟩
    unfold OwnP
    rw [List.length_append, List.map_append]
    exact h2

theorem wp_append_ptrs {o : Oper} {a : Act} {K : Act → World → Prop} {Q : Exit → Act → World → Prop} (s u : Operand) (t : TypeId)
    (ho : o.op = .call { callee := .builtin .append, args := #[s, u], argTypes := #[t, t] }) (ht : Tryd.prog.underlying t = some (.slice 37)) {B' : Nat}
    (hs : a.eval s = v) (hu : a.eval u = x) (h : OwnP w B v l) (k : OwnP w B' x lx) (hlen : l.length + lx.length ≤ 1000000) (hB : B ≤ w.heap.size)
    (hq : ∀ v' w', OwnP w' B v' (l ++ lx) → w.grownBy w' v.ownBlock → (v'.ownBlock = v.ownBlock ∨ v'.ownBlock = some w.heap.size) → K (a.put o.dst v') w') : o.wp Tryd.prog a w K Q := by
  obtain ⟨v', w', hr, h2, h3, h4⟩ := run_append_ptrs t o.type ht h k hlen hB
  unfold Oper.wp execOp
  simp only [ho, resolve, invoke, builtin, Sem.run_bind, Sem.run_pure, Result.andThen_ok, List.map_toArray, List.map_cons, List.map_nil, hs, hu, hr]
  exact hq v' w' h2 h3 h4
theorem wpList_append_ptrs {ops : Array Oper} {rest : List Oper} {o : Oper} {a : Act} {Q : Exit → Act → World → Prop} (hgd : o.guard = none) (s u : Operand) (t : TypeId)
    (ho : o.op = .call { callee := .builtin .append, args := #[s, u], argTypes := #[t, t] }) (ht : Tryd.prog.underlying t = some (.slice 37)) {B' : Nat}
    (hs : a.eval s = v) (hu : a.eval u = x) (h : OwnP w B v l) (k : OwnP w B' x lx) (hlen : l.length + lx.length ≤ 1000000) (hB : B ≤ w.heap.size)
    (hq : ∀ v' w', OwnP w' B v' (l ++ lx) → w.grownBy w' v.ownBlock → (v'.ownBlock = v.ownBlock ∨ v'.ownBlock = some w.heap.size) → wpList Tryd.prog ops Q rest (a.put o.dst v') w') : wpList Tryd.prog ops Q (o :: rest) a w :=
  wpList_plain hgd fun _ hK => wp_append_ptrs s u t ho ht hs hu h k hlen hB fun v' w' h2 h3 h4 => hK _ _ (hq v' w' h2 h3 h4)
theorem step_append_ptrs {ops : Array Oper} {o : Oper} {a : Act} {K : Act → World → Prop} {Q : Exit → Act → World → Prop} {E : Prop} (hgd : o.guard = none) (s u : Operand) (t : TypeId)
    (ho : o.op = .call { callee := .builtin .append, args := #[s, u], argTypes := #[t, t] }) (ht : Tryd.prog.underlying t = some (.slice 37)) {B' : Nat}
    (hs : a.eval s = v) (hu : a.eval u = x) (h : OwnP w B v l) (k : OwnP w B' x lx) (hlen : l.length + lx.length ≤ 1000000) (hB : B ≤ w.heap.size)
    (hq : ∀ v' w', OwnP w' B v' (l ++ lx) → w.grownBy w' v.ownBlock → (v'.ownBlock = v.ownBlock ∨ v'.ownBlock = some w.heap.size) → K (a.put o.dst v') w') :
    if Region.wanted o (yielded ops a.tmps) = true then Oper.wp Tryd.prog o a w K Q else E := by
  rw [if_pos (by simp [Region.wanted, hgd])]
  exact wp_append_ptrs s u t ho ht hs hu h k hlen hB hq
/-- what an append turns: its row alone -/
theorem Turns.appendedP (h : w.grownBy w' v.ownBlock) : Turns (fun g => v.ownBlock = some g) w w' := (Turns.refl _ w).grown h (fun _ hk _ => hk)
end
end Go.Proofs.YtclcnepkgjcmcaaDoor

/- The laws' own closure: a value's thing, if it isn't there yet, goes into the map, and onto the stack. -/
namespace Go.Proofs.YtclcnepkgjcmcaaDoor
open Go.RowKit

/-- what is put: the block of a thing that isn't there yet -/
def nk (blk : Nat → Nat) (ks : List Nat) : V → List Nat
  | .w _ => []
  | .t i => if blk i ∈ ks then [] else [blk i]
theorem Thingy.turns {w w' : World} {ks : List Nat} {X : Nat → Prop} (h : Thingy w ks) (k : Turns X w w') (hx : ∀ b ∈ ks, ¬ X b) : Thingy w' ks := fun b hb => by
  obtain ⟨c, hc⟩ := h b hb
  exact ⟨c, hc.turns k (hx b hb)⟩
theorem Thingy.quiet {w w' : World} {ks : List Nat} (h : Thingy w ks) (k : Turns (fun _ => False) w w') : Thingy w' ks := h.turns k (fun _ _ h => h)
/-- a slice of pointers owns no block of another type -/
theorem OwnP.not_lies {w : World} {B b : Nat} {v : Value} {l : List Nat} {t : TypeId} {cs : List Value} (h : OwnP w B v l) (k : Lies w b t cs) (ht : 37 ≠ t) : v.ownBlock ≠ some b := fun e => h.apart k ht b e rfl
theorem OwnP.not_map {w : World} {B g : Nat} {v : Value} {l ks : List Nat} (h : OwnP w B v l) (k : PMap w g ks) : v.ownBlock ≠ some g := fun e => by
  rcases h.2 with ⟨rfl, _⟩ | ⟨g', cap, cur, rfl, _, hh, _⟩
  · simp [Value.ownBlock] at e
  · have : g' = g := by simpa [Value.ownBlock] using e
    subst this
    unfold PMap at k
    rw [k] at hh
    cases hh

set_option maxHeartbeats 1000000 in
set_option maxRecDepth 100000 in
theorem put_any (blk : Nat → Nat) (v : V) (g c3 c4 B : Nat) (ks td : List Nat) (tv : Value) (w : World) (hm : PMap w g ks) (hth : Thingy w ks) (h3 : Lies w c3 33 [.map (some g)]) (h4 : Lies w c4 41 [tv]) (ho : OwnP w B tv td) (hB : B ≤ w.heap.size) (hl : td.length ≤ 100000)
    (hv : ∀ i, v = .t i → ∃ c, Lies w (blk i) 64 c) :
    Calls Tryd.prog 27 #[vg blk v, .pointer (some ⟨c3, 0, none⟩), .pointer (some ⟨c4, 0, none⟩)] w fun e w' => e = .returned (.tuple #[]) ∧ ∃ tv', PMap w' g (ks ++ nk blk ks v) ∧ Lies w' c3 33 [.map (some g)] ∧ Lies w' c4 41 [tv'] ∧ OwnP w' B tv' (td ++ nk blk ks v) ∧
      Turns (fun k => k = g ∨ k = c4 ∨ tv.ownBlock = some k) w w' := by
  cases v with
  | w x =>
    have e1 : nk blk ks (.w x) = [] := rfl
    rw [e1, List.append_nil, List.append_nil]
    have tq := (Turns.refl (fun _ => False) w).alloc (.cells #[.int .u64 x, .pointer none] 39)
    have f1 := hm.turns tq (fun h => h)
    have f2 := h3.turns tq (fun h => h)
    have f3 := h4.turns tq (fun h => h)
    have f4 := ho.turns tq (fun _ _ h => h)
    have FF := Lib.hid (And.intro f1 (And.intro f2 (And.intro f3 (And.intro f4 tq))))
    clear tq f1 f2 f3 f4 hm h3 h4 ho hv hth
    show Calls _ _ #[.agg #[.int .u64 x, .pointer none], _, _] _ _
    go_enter Tryd.func27, Tryd.ntmps27
    go_wp2_with fail
    go_end0
    obtain ⟨f1, f2, f3, f4, tq⟩ := FF.out
    exact ⟨rfl, tv, f1, f2, f3, f4, tq.mono fun _ _ h => h.elim⟩
  | t i =>
    obtain ⟨ci, hi⟩ := hv i rfl
    have tq := (Turns.refl (fun _ => False) w).alloc (.cells #[.int .u64 0, .pointer (some ⟨blk i, 0, none⟩)] 39)
    have f1 := hm.turns tq (fun h => h)
    have f2 := h3.turns tq (fun h => h)
    have f3 := h4.turns tq (fun h => h)
    have f4 := ho.turns tq (fun _ _ h => h)
    have f5 := hth.quiet tq
    have f6 := hi.turns tq (fun h => h)
    have hlk := run_lookup_ptr _ f6 f1 f5
    have c30 := f2.cell 0
    have n3 : c3 ≠ w.heap.size := by have := h3.lt; omega
    show Calls _ _ #[.agg #[.int .u64 0, .pointer (some ⟨blk i, 0, none⟩)], _, _] _ _
    by_cases hin : blk i ∈ ks
    · have e1 : nk blk ks (.t i) = [] := if_pos hin
      rw [e1, List.append_nil, List.append_nil]
      rw [decide_eq_true hin] at hlk
      have FF := Lib.hid (And.intro f1 (And.intro f2 (And.intro f3 (And.intro f4 tq))))
      clear tq f1 f2 f3 f4 f5 f6 hm h3 h4 ho hv hth e1 hin hi
      generalize blk i = bi at *
      go_enter Tryd.func27, Tryd.ntmps27
      go_wp2_with fail
      go_end0
      obtain ⟨f1, f2, f3, f4, tq⟩ := FF.out
      exact ⟨rfl, tv, f1, f2, f3, f4, tq.mono fun _ _ h => h.elim⟩
    · have e1 : nk blk ks (.t i) = [blk i] := if_neg hin
      rw [e1]
      rw [decide_eq_false hin] at hlk
      have hput := run_put_ptr _ f6 f1 f5 hin
      have p1 := f1.put (blk i)
      have n4 : c4 ≠ w.heap.size := by have := h4.lt; omega
      have nb : w.heap.size ≠ g := by have := hm.lt; omega
      generalize hbi : blk i = bi at *
      have tp : Turns (fun k => k = g) w (Go.ChangeMaps.setBlock (w.alloc (.cells #[.int .u64 0, .pointer (some ⟨bi, 0, none⟩)] 39)) g (.map (entsFrom (ks ++ [bi]) 0).toArray (ks ++ [bi]).length)) := Turns.setBlock (X := fun k => k = g) (g := g) (tq.mono fun _ _ h => h.elim) (fun _ => rfl) _
      have g3 := h3.turns tp (fun e => (hm.apart h3) e.symm)
      have g4 := h4.turns tp (fun e => (hm.apart h4) e.symm)
      have go := ho.turns tp (fun k hk e => ho.not_map hm (e ▸ hk))
      have gb : Lies (Go.ChangeMaps.setBlock (w.alloc (.cells #[.int .u64 0, .pointer (some ⟨bi, 0, none⟩)] 39)) g (.map (entsFrom (ks ++ [bi]) 0).toArray (ks ++ [bi]).length)) w.heap.size 39 [.int .u64 0, .pointer (some ⟨bi, 0, none⟩)] := by
        have a := Lies.made w 39 #[.int .u64 0, .pointer (some ⟨bi, 0, none⟩)]
        have b := (Turns.refl (fun k => k = g) (w.alloc (.cells #[.int .u64 0, .pointer (some ⟨bi, 0, none⟩)] 39))).setBlock (g := g) (fun _ => rfl) (.map (entsFrom (ks ++ [bi]) 0).toArray (ks ++ [bi]).length)
        exact a.turns b (fun e => nb e)
      have tsz := tp.size
      generalize hW : Go.ChangeMaps.setBlock (w.alloc (.cells #[.int .u64 0, .pointer (some ⟨bi, 0, none⟩)] 39)) g (.map (entsFrom (ks ++ [bi]) 0).toArray (ks ++ [bi]).length) = W2 at *
      have d40 := g4.cell 0
      have d41 := gb.cell 1
      have e3 : c4 ≠ g := fun e => (hm.apart h4) e.symm
      clear tq f1 f2 f3 f4 f5 f6 hv hth e1 hin hi hW
      go_enter Tryd.func27, Tryd.ntmps27
      go_wp2_with (first
        | (refine wpList_append_ptrs (v := tv) (x := .slice (some ⟨W2.heap.size, 0, none⟩) 1 1) rfl _ _ 41 rfl Tryd.underlying41 rfl rfl (go.turns ((Turns.refl (fun _ => False) _).alloc _) (fun _ _ h => h)) (OwnP.one (B := W2.heap.size) W2 bi (Nat.le_refl _)) (by simp; omega) (by simp; omega) ?_
           intro v4 w4 hown4 hg4 hat4
           have hrd := hown4.read
           rw [show (td ++ [bi]).length = td.length + 1 by simp] at hrd
           obtain ⟨A4, m4, rfl, -⟩ := hrd
           have ht4 : Turns (fun k => tv.ownBlock = some k) W2 w4 := ((Turns.refl (fun k => tv.ownBlock = some k) W2).alloc _).grown hg4 (fun k hk _ => hk)
           have k4 := g4.turns ht4 (go.not_lies g4 (by decide))
           have k40 := k4.cell 0
           have k4f := k4.free 0))
      go_end0
      have k3 := g3.turns ht4 (go.not_lies g3 (by decide))
      have km := p1.turns ht4 (go.not_map p1)
      have ts : Turns (fun k => k = c4) w4 (w4.setCell ⟨c4, 0, none⟩ (.slice A4 (td.length + 1) m4)) := (Turns.refl (fun k => k = c4) w4).setCell (p := ⟨c4, 0, none⟩) (fun _ => rfl) _
      have hgc := km.apart k4
      have h34 := k3.apart k4 (by decide)
      refine ⟨rfl, _, km.turns ts hgc, k3.turns ts h34, ?_, hown4.turns ts (fun k hk (e : k = c4) => hown4.not_lies k4 (by decide) (e ▸ hk)), ?_⟩
      · exact k4.stored 0 _
      · exact (tp.mono fun _ _ h => .inl h).trans ((ht4.mono fun _ _ h => .inr (.inr h)).trans (ts.mono fun _ _ h => .inr (.inl h)))
end Go.Proofs.YtclcnepkgjcmcaaDoor
