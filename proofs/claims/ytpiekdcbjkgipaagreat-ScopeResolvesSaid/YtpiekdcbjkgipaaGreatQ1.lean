/- Slices that the call itself has made, of elements of any fixed number of cells: how they stay, and append of one element. -/
import Derived.Test.YtpiekdcbjkgipaaGreatMem
import Derived.Maps.AppendAt
import Derived.Deep.AppendLies
import Derived.Laws.OwnMore
import Derived.Laws.BytesString
import Derived.Lib.UnsafeStr
import Derived.WalkKit
import Derived.WalkSpells
import Derived.RegionTactic
import Derived.OwnWalk
import Derived.Test.YtpiekdcbjkgipaaGreatRows
import Derived.ProofKit
import Derived.Lib.ItoaLen
namespace Go.Proofs.YtpiekdcbjkgipaaGreat
open Go.RowKit

section
variable {w w' : World} {B g n m sz : Nat} {e : TypeId} {v x : Value} {xs cs : List Value} {X : Nat → Prop}
theorem own_turns (h : w.ownsRow B e sz v n xs) (k : Turns X w w') (hx : ∀ g, v.ownBlock = some g → ¬ X g) : w'.ownsRow B e sz v n xs := by
  have hlt := World.ownsRow.lt h
  obtain ⟨h1, h2⟩ := h
  refine ⟨h1, ?_⟩
  rcases h2 with h2 | ⟨g, cap, cur, hv, hg, hh, r⟩
  · exact .inl h2
  · have ho : v.ownBlock = some g := by rw [hv]; rfl
    exact .inr ⟨g, cap, cur, hv, hg, (k.block g (hlt g ho).2 (hx g ho)).trans hh, r⟩
theorem own_below (h : w.ownsRow B e sz v n xs) (k : Below w.heap.size w w') : w'.ownsRow B e sz v n xs := own_turns h (Turns.of_below k (fun _ => False)) (fun _ _ h => h)
theorem own_base {B' : Nat} (h : w.ownsRow B e sz v n xs) (hB : B' ≤ B) : w.ownsRow B' e sz v n xs := by
  obtain ⟨h1, h2⟩ := h
  refine ⟨h1, ?_⟩
  rcases h2 with h2 | ⟨g, cap, cur, hv, hg, r⟩
  · exact .inl h2
  · exact .inr ⟨g, cap, cur, hv, Nat.le_trans hB hg, r⟩
/-- a store below its base changes nothing of it -/
theorem own_stored (h : w.ownsRow B e sz v n xs) {p : Addr} (hp : p.block < B) (u : Value) : (w.setCell p u).ownsRow B e sz v n xs :=
  own_turns h ((Turns.refl (fun k => k = p.block) w).setCell (fun _ => rfl) u) (fun g hg hh => by have := (World.ownsRow.lt h g hg).1; omega)
/-- what a reader asks: its length, and each cell -/
theorem own_read (h : w.ownsRow B e sz v n xs) : ∃ A c, v = .slice A n c ∧ ∀ j, j < n * sz → ∃ g, A = some ⟨g, 0, none⟩ ∧ B ≤ g ∧ g < w.heap.size ∧ w.cell? ⟨g, j, none⟩ = xs[j]? := by
  have hl := World.ownsRow.lt h
  rcases h.2 with ⟨rfl, hn⟩ | ⟨g, cap, cur, hv, hb, hh, hc, hm, hs, ht⟩
  · exact ⟨none, 0, by rw [hn], fun j hj => by rw [hn] at hj; omega⟩
  · refine ⟨some ⟨g, 0, none⟩, cap, hv, fun j hj => ⟨g, rfl, hb, (hl g (by rw [hv]; rfl)).2, ?_⟩⟩
    subst hv
    exact World.ownsRow.cellAt h j hj
/-- the literal of one element -/
theorem own_one (w : World) (cs : Array Value) (hs : cs.size = sz) (hB : B ≤ w.heap.size) : (w.alloc (.cells cs e)).ownsRow B e sz (.slice (some ⟨w.heap.size, 0, none⟩) 1 1) 1 cs.toList :=
  World.ownsRow_lit (base := B) (e := e) (size := sz) w cs 1 hB (by decide) (by omega)
theorem own_none (w : World) (B : Nat) (e : TypeId) (sz : Nat) : w.ownsRow B e sz (.slice none 0 0) 0 [] := World.ownsRow_nil w B e sz

theorem run_append_own_one (z : Value) (bytes : Nat) (hinf : (Tryz.prog.info? e).map (fun i => (i.zero, i.size, i.bytes)) = some (some z, sz, bytes)) (hz : z.cells.size = sz) (hsz : 0 < sz) (t ty : TypeId) (ht : Tryz.prog.underlying t = some (.slice e)) {B' : Nat}
    (h : w.ownsRow B e sz v n xs) (k : w.ownsRow B' e sz x 1 cs) (h1 : ∀ u ∈ cs, u.oneCell' = true) (hlen : n ≤ 1000000000) (hby : bytes ≤ 1000) (hB : B ≤ w.heap.size) :
    ∃ v' w', (Builtin.append_ #[t, t] ty #[v, x]).run Tryz.prog w = .ok v' w' ∧ w'.ownsRow B e sz v' (n + 1) (xs ++ cs) ∧ w.grownBy w' v.ownBlock ∧ (v'.ownBlock = v.ownBlock ∨ v'.ownBlock = some w.heap.size) := by
  obtain ⟨i0, hi, hz0, hz1, hz2⟩ := info_parts hinf
  rcases k.2 with ⟨rfl, hn⟩ | ⟨g, cap, cur, rfl, hb, hh, hc, hm, hs, hcur⟩
  · omega
  · have hcells : ∀ j u, cs[j]? = some u → w.cell? ((⟨g, 0, none⟩ : Addr).add j) = some u := by
      intro j u hu
      have hadd : (⟨g, 0, none⟩ : Addr).add j = ⟨g, j, none⟩ := by unfold Addr.add; split <;> simp_all
      rw [hadd, World.ownsRow.cellAt k j (by have := (List.getElem?_eq_some_iff.1 hu).1; have := k.1; omega), hu]
    have hbb : (n + 1) * bytes ≤ 140737488355328 := by
      have := Nat.mul_le_mul (show n + 1 ≤ 1000000001 by omega) hby; omega
    obtain ⟨v', w', hr, h2, h3, _, h5⟩ := run_append_own_at (P := Tryz.prog) (ty := ty) w B t e i0 z sz bytes ht hi hz0 hz1 hz2 hz hsz v n xs h ⟨g, 0, none⟩ 1 cap cs k.1 hcells h1 (by unfold maxLen; omega) hbb hB
    exact ⟨v', w', hr, h2, h3, h5⟩
theorem wp_append_own {o : Oper} {a : Act} {K : Act → World → Prop} {Q : Exit → Act → World → Prop} (z : Value) (bytes : Nat) (hinf : (Tryz.prog.info? e).map (fun i => (i.zero, i.size, i.bytes)) = some (some z, sz, bytes)) (hz : z.cells.size = sz) (hsz : 0 < sz) (s u : Operand) (t : TypeId)
    (ho : o.op = .call { callee := .builtin .append, args := #[s, u], argTypes := #[t, t] }) (ht : Tryz.prog.underlying t = some (.slice e)) {B' : Nat}
    (hs : a.eval s = v) (hu : a.eval u = x) (h : w.ownsRow B e sz v n xs) (k : w.ownsRow B' e sz x 1 cs) (h1 : ∀ u ∈ cs, u.oneCell' = true) (hlen : n ≤ 1000000000) (hby : bytes ≤ 1000) (hB : B ≤ w.heap.size)
    (hq : ∀ v' w', w'.ownsRow B e sz v' (n + 1) (xs ++ cs) → w.grownBy w' v.ownBlock → (v'.ownBlock = v.ownBlock ∨ v'.ownBlock = some w.heap.size) → K (a.put o.dst v') w') : o.wp Tryz.prog a w K Q := by
  obtain ⟨v', w', hr, h2, h3, h4⟩ := run_append_own_one z bytes hinf hz hsz t o.type ht h k h1 hlen hby hB
  unfold Oper.wp execOp
  simp only [ho, resolve, invoke, builtin, Sem.run_bind, Sem.run_pure, Result.andThen_ok, List.map_toArray, List.map_cons, List.map_nil, hs, hu, hr]
  exact hq v' w' h2 h3 h4
theorem wpList_append_own {ops : Array Oper} {rest : List Oper} {o : Oper} {a : Act} {Q : Exit → Act → World → Prop} (z : Value) (bytes : Nat) (hinf : (Tryz.prog.info? e).map (fun i => (i.zero, i.size, i.bytes)) = some (some z, sz, bytes)) (hz : z.cells.size = sz) (hsz : 0 < sz) (hgd : o.guard = none) (s u : Operand) (t : TypeId)
    (ho : o.op = .call { callee := .builtin .append, args := #[s, u], argTypes := #[t, t] }) (ht : Tryz.prog.underlying t = some (.slice e)) {B' : Nat}
    (hs : a.eval s = v) (hu : a.eval u = x) (h : w.ownsRow B e sz v n xs) (k : w.ownsRow B' e sz x 1 cs) (h1 : ∀ u ∈ cs, u.oneCell' = true) (hlen : n ≤ 1000000000) (hby : bytes ≤ 1000) (hB : B ≤ w.heap.size)
    (hq : ∀ v' w', w'.ownsRow B e sz v' (n + 1) (xs ++ cs) → w.grownBy w' v.ownBlock → (v'.ownBlock = v.ownBlock ∨ v'.ownBlock = some w.heap.size) → wpList Tryz.prog ops Q rest (a.put o.dst v') w') : wpList Tryz.prog ops Q (o :: rest) a w :=
  wpList_plain hgd fun _ hK => wp_append_own z bytes hinf hz hsz s u t ho ht hs hu h k h1 hlen hby hB fun v' w' h2 h3 h4 => hK _ _ (hq v' w' h2 h3 h4)
theorem step_append_own {ops : Array Oper} {o : Oper} {a : Act} {K : Act → World → Prop} {Q : Exit → Act → World → Prop} {E : Prop} (z : Value) (bytes : Nat) (hinf : (Tryz.prog.info? e).map (fun i => (i.zero, i.size, i.bytes)) = some (some z, sz, bytes)) (hz : z.cells.size = sz) (hsz : 0 < sz) (hgd : o.guard = none) (s u : Operand) (t : TypeId)
    (ho : o.op = .call { callee := .builtin .append, args := #[s, u], argTypes := #[t, t] }) (ht : Tryz.prog.underlying t = some (.slice e)) {B' : Nat}
    (hs : a.eval s = v) (hu : a.eval u = x) (h : w.ownsRow B e sz v n xs) (k : w.ownsRow B' e sz x 1 cs) (h1 : ∀ u ∈ cs, u.oneCell' = true) (hlen : n ≤ 1000000000) (hby : bytes ≤ 1000) (hB : B ≤ w.heap.size)
    (hq : ∀ v' w', w'.ownsRow B e sz v' (n + 1) (xs ++ cs) → w.grownBy w' v.ownBlock → (v'.ownBlock = v.ownBlock ∨ v'.ownBlock = some w.heap.size) → K (a.put o.dst v') w') :
    if Region.wanted o (yielded ops a.tmps) = true then Oper.wp Tryz.prog o a w K Q else E := by
  rw [if_pos (by simp [Region.wanted, hgd])]
  exact wp_append_own z bytes hinf hz hsz s u t ho ht hs hu h k h1 hlen hby hB hq
theorem Turns.appendedS (h : w.grownBy w' v.ownBlock) : Turns (fun g => v.ownBlock = some g) w w' := (Turns.refl _ w).grown h (fun _ hk _ => hk)
end

end Go.Proofs.YtpiekdcbjkgipaaGreat

/- One's own row put behind one's own row, whatever the elements are: append. -/
namespace Go.Proofs.YtpiekdcbjkgipaaGreat
open Go.RowKit

section
variable {w w' : World} {B m n sz : Nat} {e : TypeId} {v x : Value} {xs cs : List Value} {X : Nat → Prop}
/-- one's own row, nil or not, is put behind one's own row -/
theorem run_append_own_row (z : Value) (bytes : Nat) (hinf : (Tryz.prog.info? e).map (fun i => (i.zero, i.size, i.bytes)) = some (some z, sz, bytes)) (hz : z.cells.size = sz) (hsz : 0 < sz) (t ty : TypeId) (ht : Tryz.prog.underlying t = some (.slice e)) {B' : Nat}
    (h : w.ownsRow B e sz v n xs) (k : w.ownsRow B' e sz x m cs) (h1 : ∀ u ∈ cs, u.oneCell' = true) (hlen : n + m ≤ 1000000) (hby : bytes ≤ 1000) (hB : B ≤ w.heap.size) :
    ∃ v' w', (Builtin.append_ #[t, t] ty #[v, x]).run Tryz.prog w = .ok v' w' ∧ w'.ownsRow B e sz v' (n + m) (xs ++ cs) ∧ w.grownBy w' v.ownBlock ∧ (v'.ownBlock = v.ownBlock ∨ v'.ownBlock = some w.heap.size) := by
  obtain ⟨i0, hi, hz0, hz1, hz2⟩ := info_parts hinf
  rcases k.2 with ⟨rfl, hn⟩ | ⟨g, cap, cur, rfl, hb, hh, hc, hm, hs, hcur⟩
  · have hcs : cs = [] := List.eq_nil_of_length_eq_zero (by rw [k.1, hn]; simp)
    subst hcs
    subst hn
    exact ⟨v, w, run_append_owned_none w B t ty e i0 sz ht hi v _ _ h, by rw [List.append_nil]; exact h, World.grownBy.refl w _, .inl rfl⟩
  · have hcells : ∀ j u, cs[j]? = some u → w.cell? ((⟨g, 0, none⟩ : Addr).add j) = some u := by
      intro j u hu
      have hadd : (⟨g, 0, none⟩ : Addr).add j = ⟨g, j, none⟩ := by unfold Addr.add; split <;> simp_all
      rw [hadd, World.ownsRow.cellAt k j (by have := (List.getElem?_eq_some_iff.1 hu).1; have := k.1; omega), hu]
    have hbb : (n + m) * bytes ≤ 140737488355328 := by
      have := Nat.mul_le_mul hlen hby; omega
    obtain ⟨v', w', hr, h2, h3, _, h5⟩ := run_append_own_at (P := Tryz.prog) (ty := ty) w B t e i0 z sz bytes ht hi hz0 hz1 hz2 hz hsz v n xs h ⟨g, 0, none⟩ m cap cs k.1 hcells h1 (by unfold maxLen; omega) hbb hB
    exact ⟨v', w', hr, h2, h3, h5⟩
theorem wp_append_row {o : Oper} {a : Act} {K : Act → World → Prop} {Q : Exit → Act → World → Prop} (z : Value) (bytes : Nat) (hinf : (Tryz.prog.info? e).map (fun i => (i.zero, i.size, i.bytes)) = some (some z, sz, bytes)) (hz : z.cells.size = sz) (hsz : 0 < sz) (s u : Operand) (t : TypeId)
    (ho : o.op = .call { callee := .builtin .append, args := #[s, u], argTypes := #[t, t] }) (ht : Tryz.prog.underlying t = some (.slice e)) {B' : Nat}
    (hs : a.eval s = v) (hu : a.eval u = x) (h : w.ownsRow B e sz v n xs) (k : w.ownsRow B' e sz x m cs) (h1 : ∀ u ∈ cs, u.oneCell' = true) (hlen : n + m ≤ 1000000) (hby : bytes ≤ 1000) (hB : B ≤ w.heap.size)
    (hq : ∀ v' w', w'.ownsRow B e sz v' (n + m) (xs ++ cs) → w.grownBy w' v.ownBlock → (v'.ownBlock = v.ownBlock ∨ v'.ownBlock = some w.heap.size) → K (a.put o.dst v') w') : o.wp Tryz.prog a w K Q := by
  obtain ⟨v', w', hr, h2, h3, h4⟩ := run_append_own_row z bytes hinf hz hsz t o.type ht h k h1 hlen hby hB
  unfold Oper.wp execOp
  simp only [ho, resolve, invoke, builtin, Sem.run_bind, Sem.run_pure, Result.andThen_ok, List.map_toArray, List.map_cons, List.map_nil, hs, hu, hr]
  exact hq v' w' h2 h3 h4
theorem wpList_append_row {ops : Array Oper} {rest : List Oper} {o : Oper} {a : Act} {Q : Exit → Act → World → Prop} (z : Value) (bytes : Nat) (hinf : (Tryz.prog.info? e).map (fun i => (i.zero, i.size, i.bytes)) = some (some z, sz, bytes)) (hz : z.cells.size = sz) (hsz : 0 < sz) (hgd : o.guard = none) (s u : Operand) (t : TypeId)
    (ho : o.op = .call { callee := .builtin .append, args := #[s, u], argTypes := #[t, t] }) (ht : Tryz.prog.underlying t = some (.slice e)) {B' : Nat}
    (hs : a.eval s = v) (hu : a.eval u = x) (h : w.ownsRow B e sz v n xs) (k : w.ownsRow B' e sz x m cs) (h1 : ∀ u ∈ cs, u.oneCell' = true) (hlen : n + m ≤ 1000000) (hby : bytes ≤ 1000) (hB : B ≤ w.heap.size)
    (hq : ∀ v' w', w'.ownsRow B e sz v' (n + m) (xs ++ cs) → w.grownBy w' v.ownBlock → (v'.ownBlock = v.ownBlock ∨ v'.ownBlock = some w.heap.size) → wpList Tryz.prog ops Q rest (a.put o.dst v') w') : wpList Tryz.prog ops Q (o :: rest) a w :=
  wpList_plain hgd fun _ hK => wp_append_row z bytes hinf hz hsz s u t ho ht hs hu h k h1 hlen hby hB fun v' w' h2 h3 h4 => hK _ _ (hq v' w' h2 h3 h4)
theorem step_append_row {ops : Array Oper} {o : Oper} {a : Act} {K : Act → World → Prop} {Q : Exit → Act → World → Prop} {E : Prop} (z : Value) (bytes : Nat) (hinf : (Tryz.prog.info? e).map (fun i => (i.zero, i.size, i.bytes)) = some (some z, sz, bytes)) (hz : z.cells.size = sz) (hsz : 0 < sz) (hgd : o.guard = none) (s u : Operand) (t : TypeId)
    (ho : o.op = .call { callee := .builtin .append, args := #[s, u], argTypes := #[t, t] }) (ht : Tryz.prog.underlying t = some (.slice e)) {B' : Nat}
    (hs : a.eval s = v) (hu : a.eval u = x) (h : w.ownsRow B e sz v n xs) (k : w.ownsRow B' e sz x m cs) (h1 : ∀ u ∈ cs, u.oneCell' = true) (hlen : n + m ≤ 1000000) (hby : bytes ≤ 1000) (hB : B ≤ w.heap.size)
    (hq : ∀ v' w', w'.ownsRow B e sz v' (n + m) (xs ++ cs) → w.grownBy w' v.ownBlock → (v'.ownBlock = v.ownBlock ∨ v'.ownBlock = some w.heap.size) → K (a.put o.dst v') w') :
    if Region.wanted o (yielded ops a.tmps) = true then Oper.wp Tryz.prog o a w K Q else E := by
  rw [if_pos (by simp [Region.wanted, hgd])]
  exact wp_append_row z bytes hinf hz hsz s u t ho ht hs hu h k h1 hlen hby hB hq
end

end Go.Proofs.YtpiekdcbjkgipaaGreat

/- The plain mathematics of layer 2: what each call gives for any two ints. No dump is read here. -/
namespace Go.Proofs.YtpiekdcbjkgipaaGreat.FM
open Go.RowKit

/-- within the bounds? -/
def num (a : Int) : Bool := decide (-1152921504606846976 ≤ a ∧ a ≤ 1152921504606846975)
theorem num_yes {a : Int} (h : num a = true) : -1152921504606846976 ≤ a ∧ a ≤ 1152921504606846975 := of_decide_eq_true h
theorem num_mk {a : Int} (h : -1152921504606846976 ≤ a ∧ a ≤ 1152921504606846975) : num a = true := decide_eq_true h
theorem num_no {a : Int} (h : num a = false) : a < -1152921504606846976 ∨ 1152921504606846975 < a := by
  have := of_decide_eq_false h; omega
theorem num_mk_no {a : Int} (h : a < -1152921504606846976 ∨ 1152921504606846975 < a) : num a = false := decide_eq_false (by omega)

/-- the number, if it is one; else the overflow -/
def bd (a : Int) : Int × Int := if num a then (a, 0) else (0, 11)
/-- of two numbers alone -/
def both (a b : Int) (x : Int × Int) : Int × Int := if num a && num b then x else (0, 2)
def add (a b : Int) : Int × Int := both a b (bd (a + b))
def sub (a b : Int) : Int × Int := both a b (bd (a - b))
def mul (a b : Int) : Int × Int := both a b (bd (a * b))
def quo (a b : Int) : Int × Int := both a b (if b = 0 then (0, 12) else bd (a.tdiv b))
def rem (a b : Int) : Int × Int := both a b (if b = 0 then (0, 12) else (a.tmod b, 0))
/-- of b's sign -/
def md (a b : Int) : Int := if a.tmod b ≠ 0 ∧ (decide (a.tmod b < 0) ≠ decide (b < 0)) then a.tmod b + b else a.tmod b
def mod (a b : Int) : Int × Int := both a b (if b = 0 then (0, 12) else (md a b, 0))

theorem tmod_bd (a b : Int) (_hb : b ≠ 0) : (0 ≤ a → 0 ≤ a.tmod b) ∧ (a ≤ 0 → a.tmod b ≤ 0) ∧ (0 < b → -b < a.tmod b ∧ a.tmod b < b) ∧ (b < 0 → b < a.tmod b ∧ a.tmod b < -b) := by
  refine ⟨fun h => Int.tmod_nonneg _ h, fun h => ?_, fun h => ?_, fun h => ?_⟩
  · have := Int.tmod_nonneg b (a := -a) (by omega)
    rw [Int.neg_tmod] at this; omega
  · have h1 := Int.tmod_lt_of_pos a h
    have h2 := Int.tmod_lt_of_pos (-a) h
    rw [Int.neg_tmod] at h2; omega
  · have h1 := Int.tmod_lt_of_pos a (b := -b) (by omega)
    have h2 := Int.tmod_lt_of_pos (-a) (b := -b) (by omega)
    rw [Int.neg_tmod] at h2
    rw [Int.tmod_neg] at h1 h2; omega
theorem tdm (a b : Int) : a.tdiv b * b + a.tmod b = a := by rw [Int.mul_comm]; exact Int.mul_tdiv_add_tmod a b
theorem abs_le {a : Int} (c : Int) (h : -c ≤ a) (h' : a ≤ c) : (a.natAbs : Int) ≤ c := by omega
theorem tdiv_bd (a b : Int) : (a.tdiv b).natAbs ≤ a.natAbs := by rw [Int.natAbs_tdiv]; exact Nat.div_le_self _ _

/-- a small number's remainder -/
theorem tmod_small {x b : Int} (h : x.natAbs < b.natAbs) : x.tmod b = x := by
  rcases Int.le_total 0 x with hx | hx
  · rcases Int.le_total 0 b with hb | hb
    · exact Int.tmod_eq_of_lt hx (by omega)
    · rw [← Int.tmod_neg]; exact Int.tmod_eq_of_lt hx (by omega)
  · have : (-x).tmod b = -x := by
      rcases Int.le_total 0 b with hb | hb
      · exact Int.tmod_eq_of_lt (by omega) (by omega)
      · rw [← Int.tmod_neg]; exact Int.tmod_eq_of_lt (by omega) (by omega)
    rw [Int.neg_tmod] at this; omega

theorem tmod_add_self {r b : Int} (_hb : b ≠ 0) (h : 0 ≤ b ∧ 0 ≤ r ∨ b ≤ 0 ∧ r ≤ 0) : (r + b).tmod b = r.tmod b := by
  rcases h with ⟨h1, h2⟩ | ⟨h1, h2⟩
  · rw [Int.tmod_eq_emod_of_nonneg (by omega), Int.tmod_eq_emod_of_nonneg h2, Int.add_emod_right]
  · have e : ∀ x : Int, x ≤ 0 → x.tmod b = -((-x) % (-b)) := fun x hx => by
      have h3 : (-x).tmod b = -(x.tmod b) := Int.neg_tmod ..
      have h4 : (-x).tmod (-b) = (-x).tmod b := Int.tmod_neg ..
      have h5 : (-x).tmod (-b) = (-x) % (-b) := Int.tmod_eq_emod_of_nonneg (by omega)
      omega
    rw [e (r + b) (by omega), e r h2, show -(r + b) = -r + -b by omega, Int.add_emod_right]

/-- what is left of a, and one b more, leaves the modulo -/
theorem md_eq (a b : Int) (hb : b ≠ 0) : (a.tmod b + b).tmod b = md a b := by
  have t := tmod_bd a b hb
  unfold md
  by_cases hc : a.tmod b ≠ 0 ∧ (decide (a.tmod b < 0) ≠ decide (b < 0))
  · rw [if_pos hc]
    obtain ⟨h0, h1⟩ := hc
    have h2 : ¬ (a.tmod b < 0 ↔ b < 0) := by simpa using h1
    refine tmod_small ?_
    omega
  · rw [if_neg hc]
    have h2 : a.tmod b = 0 ∨ (a.tmod b < 0 ↔ b < 0) := by
      by_cases h0 : a.tmod b = 0
      · exact .inl h0
      · refine .inr ?_
        by_cases h : (a.tmod b < 0 ↔ b < 0)
        · exact h
        · exact absurd ⟨h0, by simpa using h⟩ hc
    rw [tmod_add_self hb (by omega)]
    refine tmod_small ?_
    omega

theorem md_bd (a b : Int) (hb : b ≠ 0) : (0 < b → 0 ≤ md a b ∧ md a b < b) ∧ (b < 0 → b < md a b ∧ md a b ≤ 0) := by
  have t := tmod_bd a b hb
  unfold md
  by_cases hc : a.tmod b ≠ 0 ∧ (decide (a.tmod b < 0) ≠ decide (b < 0))
  · rw [if_pos hc]
    obtain ⟨h0, h1⟩ := hc
    have h2 : ¬ (a.tmod b < 0 ↔ b < 0) := by simpa using h1
    omega
  · rw [if_neg hc]
    have h2 : a.tmod b = 0 ∨ (a.tmod b < 0 ↔ b < 0) := by
      by_cases h0 : a.tmod b = 0
      · exact .inl h0
      · refine .inr ?_
        by_cases h : (a.tmod b < 0 ↔ b < 0)
        · exact h
        · exact absurd ⟨h0, by simpa using h⟩ hc
    omega
theorem md_or (a b : Int) : md a b = a.tmod b ∨ md a b = a.tmod b + b := by
  unfold md; split
  · exact .inr rfl
  · exact .inl rfl

theorem wrap_in (n : Int) (h : -9223372036854775808 ≤ n) (h' : n ≤ 9223372036854775807) : wrap64 n = n := by unfold wrap64; omega

/-- a product that ran over comes back by no division -/
theorem mul_back (a b : Int) (ha : num a = true) (h0 : a ≠ 0) (h : (wrap64 (a * b)).tdiv a = b) : wrap64 (a * b) = a * b := by
  have hb := num_yes ha
  have e := tdm (wrap64 (a * b)) a
  rw [h, Int.mul_comm b a] at e
  have t := tmod_bd (wrap64 (a * b)) a h0
  have hw : (wrap64 (a * b) - a * b) % 18446744073709551616 = 0 := by unfold wrap64; omega
  have k : -1152921504606846976 ≤ (wrap64 (a * b)).tmod a ∧ (wrap64 (a * b)).tmod a ≤ 1152921504606846976 := by omega
  omega
theorem mul_there (a b : Int) (h0 : a ≠ 0) (h : wrap64 (a * b) = a * b) : (wrap64 (a * b)).tdiv a = b := by
  rw [h]; exact Int.mul_tdiv_cancel_left b h0
/-- so the division tells -/
theorem mul_tells (a b : Int) (h0 : a ≠ 0) : (wrap64 (a * b)).tdiv a = b ∨ ((wrap64 (a * b)).tdiv a ≠ b ∧ num (a * b) = false) := by
  by_cases h : (wrap64 (a * b)).tdiv a = b
  · exact .inl h
  · refine .inr ⟨h, ?_⟩
    cases hn : num (a * b) with
    | false => rfl
    | true =>
      have := num_yes hn
      exact absurd (mul_there a b h0 (by unfold wrap64; omega)) h

/-- the division of the product runs over nowhere -/
theorem mul_quo_in (a b : Int) (ha : num a = true) (hb : num b = true) (h0 : a ≠ 0) : wrap64 ((wrap64 (a * b)).tdiv a) = (wrap64 (a * b)).tdiv a := by
  have h1 := num_yes ha
  have h2 := num_yes hb
  have hq : ((wrap64 (a * b)).tdiv a).natAbs = (wrap64 (a * b)).natAbs / a.natAbs := Int.natAbs_tdiv _ _
  have hp : (wrap64 (a * b)).natAbs ≤ 9223372036854775808 := by unfold wrap64; omega
  suffices h : ((wrap64 (a * b)).tdiv a).natAbs ≤ 4611686018427387904 by apply wrap_in <;> omega
  rw [hq]
  by_cases h : a.natAbs = 1
  · have : a = 1 ∨ a = -1 := by omega
    have hp2 : (wrap64 (a * b)).natAbs ≤ 4611686018427387904 := by
      rcases this with rfl | rfl
      · unfold wrap64; omega
      · unfold wrap64; omega
    exact Nat.le_trans (Nat.div_le_self _ _) hp2
  · have : 2 ≤ a.natAbs := by omega
    have h3 : (wrap64 (a * b)).natAbs / a.natAbs ≤ (wrap64 (a * b)).natAbs / 2 := Nat.div_le_div_left this (by decide)
    omega
theorem quo_in (a b : Int) (ha : num a = true) : wrap64 (a.tdiv b) = a.tdiv b := by
  have h1 := num_yes ha
  have h2 := tdiv_bd a b
  apply wrap_in <;> omega
/-- what the division of the product is held against -/
theorem mul_way_no (a b : Int) (ha : num a = true) (hb : num b = true) (h0 : a ≠ 0) (h : wrap64 ((wrap64 (a * b)).tdiv a) ≠ b) : bd (a * b) = (0, 11) := by
  rw [mul_quo_in a b ha hb h0] at h
  rcases mul_tells a b h0 with k | ⟨_, k⟩
  · exact absurd k h
  · rw [bd, k, if_neg (by simp)]
theorem mul_way_yes (a b : Int) (ha : num a = true) (hb : num b = true) (h0 : a ≠ 0) (h : wrap64 ((wrap64 (a * b)).tdiv a) = b) : wrap64 (a * b) = a * b := by
  rw [mul_quo_in a b ha hb h0] at h
  exact mul_back a b ha h0 h

/-- the product by its parts without signs -/
theorem absmul (a b : Int) : (a * b).natAbs = a.natAbs * b.natAbs := Int.natAbs_mul a b
theorem over (x y m : Nat) (hy : 0 < y) : m / y < x ↔ m < x * y := Nat.div_lt_iff_lt_mul hy
end Go.Proofs.YtpiekdcbjkgipaaGreat.FM

/- The plain mathematics of a number's text: its sign, its digits, what they come to. No dump is read here. -/
namespace Go.Proofs.YtpiekdcbjkgipaaGreat.FM
open Go.RowKit

def dig (c : UInt8) : Bool := decide (48 ≤ (c.toNat : Int) ∧ (c.toNat : Int) ≤ 57)
theorem dig_yes {c : UInt8} (h : dig c = true) : 48 ≤ (c.toNat : Int) ∧ (c.toNat : Int) ≤ 57 := of_decide_eq_true h
def val (l : List UInt8) : Int := l.foldl (fun v c => v * 10 + ((c.toNat : Int) - 48)) 0
def digs (l : List UInt8) : Bool := l.all dig
def okd (l : List UInt8) : Bool := decide (1 ≤ l.length ∧ l.length ≤ 30) && digs l
def body : List UInt8 → List UInt8
  | [] => []
  | c :: r => if c = 45 ∨ c = 43 then r else c :: r
def neg : List UInt8 → Bool
  | [] => false
  | c :: _ => c == 45
def sv (l : List UInt8) : Int := if neg l then -(val (body l)) else val (body l)
def parse (l : List UInt8) : Int × Int := if okd (body l) then bd (sv l) else (0, 6)

theorem val_snoc (l : List UInt8) (c : UInt8) : val (l ++ [c]) = val l * 10 + ((c.toNat : Int) - 48) := by simp [val]
theorem digs_snoc (l : List UInt8) (c : UInt8) : digs (l ++ [c]) = (digs l && dig c) := by simp [digs]
theorem take_snoc (s : ByteArray) (k : Nat) (h : k < s.size) : s.data.toList.take (k + 1) = s.data.toList.take k ++ [s[k]] := by
  rw [List.take_succ_eq_append_getElem (by simpa using h)]; rfl
theorem val_app (l m : List UInt8) (hm : digs m = true) (h0 : 0 ≤ val l) : val l ≤ val (l ++ m) := by
  induction m generalizing l with
  | nil => simp
  | cons c m ih =>
    simp only [digs, List.all_cons, Bool.and_eq_true] at hm
    have hc := dig_yes hm.1
    have e : l ++ c :: m = (l ++ [c]) ++ m := by simp
    rw [e]
    have h1 := val_snoc l c
    have := ih (l ++ [c]) (by simpa [digs] using hm.2) (by omega)
    omega
theorem val_nonneg (l : List UInt8) (h : digs l = true) : 0 ≤ val l := by
  have := val_app [] l h (by simp [val])
  simpa [val] using this
theorem digs_take (l : List UInt8) (k : Nat) (h : digs l = true) : digs (l.take k) = true := by
  simp only [digs, List.all_eq_true] at h ⊢
  exact fun c hc => h c (List.mem_of_mem_take hc)
theorem digs_drop (l : List UInt8) (k : Nat) (h : digs l = true) : digs (l.drop k) = true := by
  simp only [digs, List.all_eq_true] at h ⊢
  exact fun c hc => h c (List.mem_of_mem_drop hc)
theorem val_take (l : List UInt8) (k : Nat) (h : digs l = true) : val (l.take k) ≤ val l := by
  have := val_app (l.take k) (l.drop k) (digs_drop l k h) (val_nonneg _ (digs_take l k h))
  rwa [List.take_append_drop] at this
theorem digs_at (l : List UInt8) (k : Nat) (h : digs l = true) (hk : k < l.length) : dig l[k] = true := by
  simp only [digs, List.all_eq_true] at h
  exact h _ (List.getElem_mem hk)
theorem digs_not (l : List UInt8) (k : Nat) (hk : k < l.length) (h : dig l[k] = false) : digs l = false := by
  cases hd : digs l with
  | false => rfl
  | true => rw [digs_at l k hd hk] at h; cases h

/-- one digit more behind a number, of its sign -/
def fo (n d : Int) : Int × Int := if num (n * 10) then bd (n * 10 + d) else (0, 11)
theorem fo_eq (n d : Int) (h : 0 ≤ n ∧ 0 ≤ d ∨ n ≤ 0 ∧ d ≤ 0) : fo n d = bd (n * 10 + d) := by
  unfold fo
  cases h1 : num (n * 10) with
  | true => rw [if_pos rfl]
  | false =>
    have := num_no h1
    rw [if_neg (by simp), bd, num_mk_no (by omega), if_neg (by simp)]

/-! ### Noughts, signs, numerals -/
theorem parse_no (l : List UInt8) (h : okd (body l) = false) : parse l = (0, 6) := by rw [parse, h, if_neg (by simp)]
theorem okd_digs {l : List UInt8} (h : okd l = true) : digs l = true := by simp [okd] at h; exact h.2
theorem body_plain {l : List UInt8} (h : digs l = true) : body l = l ∧ neg l = false := by
  cases l with
  | nil => exact ⟨rfl, rfl⟩
  | cons c r =>
    simp only [digs, List.all_cons, Bool.and_eq_true] at h
    have hc := dig_yes h.1
    have h1 : c ≠ 45 := by rintro rfl; revert hc; decide
    have h2 : c ≠ 43 := by rintro rfl; revert hc; decide
    exact ⟨by simp [body, h1, h2], by simp [neg, h1]⟩
theorem dec_digs (u : Nat) : digs (Lib.decDigits u) = true ∧ val (Lib.decDigits u) = u := by
  induction u using Nat.strongRecOn with
  | _ u ih =>
    rw [Lib.decDigits]
    by_cases h : u < 10
    · rw [dif_pos h]
      have e : (UInt8.ofNat (48 + u)).toNat = 48 + u := by simp; omega
      refine ⟨?_, ?_⟩
      · simp only [digs, List.all_cons, List.all_nil, Bool.and_true, dig, e, decide_eq_true_eq]; omega
      · simp only [val, List.foldl_cons, List.foldl_nil, e]; omega
    · rw [dif_neg h]
      obtain ⟨h1, h2⟩ := ih (u / 10) (by omega)
      have e : (UInt8.ofNat (48 + u % 10)).toNat = 48 + u % 10 := by simp; omega
      refine ⟨?_, ?_⟩
      · rw [digs_snoc, h1]; simp only [dig, e, Bool.true_and, decide_eq_true_eq]; omega
      · rw [val_snoc, h2, e]; omega
theorem dec_len (u : Nat) (h : u ≤ 9223372036854775808) : 1 ≤ (Lib.decDigits u).length ∧ (Lib.decDigits u).length ≤ 20 := by
  have h1 := Lib.nDigits_pos u
  rw [Lib.decDigits_length]
  refine ⟨h1, ?_⟩
  by_cases h2 : 20 < Lib.nDigits u
  · exfalso
    have : ∀ k v : Nat, k ≤ Lib.nDigits v → 1 ≤ k → 10 ^ (k - 1) ≤ v ∨ k = 1 := by
      intro k
      induction k with
      | zero => intro v _ h; omega
      | succ k ih =>
        intro v hv _
        by_cases hk : k = 0
        · right; omega
        · left
          by_cases hs : v < 10
          · rw [Lib.nDigits_small hs] at hv; omega
          · rw [Lib.nDigits_big hs] at hv
            have := ih (v / 10) (by omega) (by omega)
            simp only [Nat.add_sub_cancel]
            rcases this with h | h
            · have e : 10 ^ k = 10 ^ (k - 1) * 10 := by rw [← Nat.pow_succ]; congr 1; omega
              omega
            · subst h; simp; omega
    have := this 21 u (by omega) (by omega)
    simp at this
    omega
  · omega
end Go.Proofs.YtpiekdcbjkgipaaGreat.FM
