/- Slices that the call itself has made, of elements of any fixed number of cells: how they stay, and append of one element. -/
import Derived.Test.YtpiekdcbjkgipaaGreatDoorMem
import Derived.Maps.AppendAt
import Derived.Deep.AppendLies
import Derived.Laws.OwnMore
import Derived.Laws.BytesString
import Derived.Lib.UnsafeStr
import Derived.WalkKit
import Derived.WalkSpells
import Derived.RegionTactic
import Derived.OwnWalk
import Derived.Test.YtpiekdcbjkgipaaGreatDoorRows
import Derived.Test.YtpiekdcbjkgipaaGreatDoorQ1
namespace Go.Proofs.YtpiekdcbjkgipaaGreatDoor
open Go.RowKit

section
variable {w w' : World} {B g n m sz : Nat} {e : TypeId} {v x : Value} {xs cs : List Value} {X : Nat → Prop}
theorem own_turns (h : w.ownsRow B e sz v n xs) (k : Turns X w w') (hx : ∀ g, v.ownBlock = some g → ¬ X g) : w'.ownsRow B e sz v n xs := by
  have hlt := World.ownsRow.lt h
  obtain ⟨h1, h2⟩ := h
  refine ⟨h1, ?_⟩
  rcases h2 with h2 | ⟨g, cap, cur, hv, hg, hh, r⟩
  · exact .inl h2
  · have ho : v.ownBlock = some g := by rw [hv]; rfl
    exact .inr ⟨g, cap, cur, hv, hg, (k.block g (hlt g ho).2 (hx g ho)).trans hh, r⟩
theorem own_below (h : w.ownsRow B e sz v n xs) (k : Below w.heap.size w w') : w'.ownsRow B e sz v n xs := own_turns h (Turns.of_below k (fun _ => False)) (fun _ _ h => h)
theorem own_base {B' : Nat} (h : w.ownsRow B e sz v n xs) (hB : B' ≤ B) : w.ownsRow B' e sz v n xs := by
  obtain ⟨h1, h2⟩ := h
  refine ⟨h1, ?_⟩
  rcases h2 with h2 | ⟨g, cap, cur, hv, hg, r⟩
  · exact .inl h2
  · exact .inr ⟨g, cap, cur, hv, Nat.le_trans hB hg, r⟩
/-- what a reader asks: its length, and each cell -/
theorem own_read (h : w.ownsRow B e sz v n xs) : ∃ A c, v = .slice A n c ∧ ∀ j, j < n * sz → ∃ g, A = some ⟨g, 0, none⟩ ∧ B ≤ g ∧ g < w.heap.size ∧ w.cell? ⟨g, j, none⟩ = xs[j]? := by
  have hl := World.ownsRow.lt h
  rcases h.2 with ⟨rfl, hn⟩ | ⟨g, cap, cur, hv, hb, hh, hc, hm, hs, ht⟩
  · exact ⟨none, 0, by rw [hn], fun j hj => by rw [hn] at hj; omega⟩
  · refine ⟨some ⟨g, 0, none⟩, cap, hv, fun j hj => ⟨g, rfl, hb, (hl g (by rw [hv]; rfl)).2, ?_⟩⟩
    subst hv
    exact World.ownsRow.cellAt h j hj
/-- the literal of one element -/
theorem own_one (w : World) (cs : Array Value) (hs : cs.size = sz) (hB : B ≤ w.heap.size) : (w.alloc (.cells cs e)).ownsRow B e sz (.slice (some ⟨w.heap.size, 0, none⟩) 1 1) 1 cs.toList :=
  World.ownsRow_lit (base := B) (e := e) (size := sz) w cs 1 hB (by decide) (by omega)
theorem own_none (w : World) (B : Nat) (e : TypeId) (sz : Nat) : w.ownsRow B e sz (.slice none 0 0) 0 [] := World.ownsRow_nil w B e sz

theorem run_append_own_one (z : Value) (bytes : Nat) (hinf : (Tryz.prog.info? e).map (fun i => (i.zero, i.size, i.bytes)) = some (some z, sz, bytes)) (hz : z.cells.size = sz) (hsz : 0 < sz) (t ty : TypeId) (ht : Tryz.prog.underlying t = some (.slice e)) {B' : Nat}
    (h : w.ownsRow B e sz v n xs) (k : w.ownsRow B' e sz x 1 cs) (h1 : ∀ u ∈ cs, u.oneCell' = true) (hlen : n ≤ 1000000000) (hby : bytes ≤ 1000) (hB : B ≤ w.heap.size) :
    ∃ v' w', (Builtin.append_ #[t, t] ty #[v, x]).run Tryz.prog w = .ok v' w' ∧ w'.ownsRow B e sz v' (n + 1) (xs ++ cs) ∧ w.grownBy w' v.ownBlock ∧ (v'.ownBlock = v.ownBlock ∨ v'.ownBlock = some w.heap.size) := by
  obtain ⟨i0, hi, hz0, hz1, hz2⟩ := info_parts hinf
  rcases k.2 with ⟨rfl, hn⟩ | ⟨g, cap, cur, rfl, hb, hh, hc, hm, hs, hcur⟩
  · omega
  · have hcells : ∀ j u, cs[j]? = some u → w.cell? ((⟨g, 0, none⟩ : Addr).add j) = some u := by
      intro j u hu
      have hadd : (⟨g, 0, none⟩ : Addr).add j = ⟨g, j, none⟩ := by unfold Addr.add; split <;> simp_all
      rw [hadd, World.ownsRow.cellAt k j (by have := (List.getElem?_eq_some_iff.1 hu).1; have := k.1; omega), hu]
    have hbb : (n + 1) * bytes ≤ 140737488355328 := by
      have := Nat.mul_le_mul (show n + 1 ≤ 1000000001 by omega) hby; omega
    obtain ⟨v', w', hr, h2, h3, _, h5⟩ := run_append_own_at (P := Tryz.prog) (ty := ty) w B t e i0 z sz bytes ht hi hz0 hz1 hz2 hz hsz v n xs h ⟨g, 0, none⟩ 1 cap cs k.1 hcells h1 (by unfold maxLen; omega) hbb hB
    exact ⟨v', w', hr, h2, h3, h5⟩
theorem wp_append_own {o : Oper} {a : Act} {K : Act → World → Prop} {Q : Exit → Act → World → Prop} (z : Value) (bytes : Nat) (hinf : (Tryz.prog.info? e).map (fun i => (i.zero, i.size, i.bytes)) = some (some z, sz, bytes)) (hz : z.cells.size = sz) (hsz : 0 < sz) (s u : Operand) (t : TypeId)
    (ho : o.op = .call { callee := .builtin .append, args := #[s, u], argTypes := #[t, t] }) (ht : Tryz.prog.underlying t = some (.slice e)) {B' : Nat}
    (hs : a.eval s = v) (hu : a.eval u = x) (h : w.ownsRow B e sz v n xs) (k : w.ownsRow B' e sz x 1 cs) (h1 : ∀ u ∈ cs, u.oneCell' = true) (hlen : n ≤ 1000000000) (hby : bytes ≤ 1000) (hB : B ≤ w.heap.size)
    (hq : ∀ v' w', w'.ownsRow B e sz v' (n + 1) (xs ++ cs) → w.grownBy w' v.ownBlock → (v'.ownBlock = v.ownBlock ∨ v'.ownBlock = some w.heap.size) → K (a.put o.dst v') w') : o.wp Tryz.prog a w K Q := by
  obtain ⟨v', w', hr, h2, h3, h4⟩ := run_append_own_one z bytes hinf hz hsz t o.type ht h k h1 hlen hby hB
  unfold Oper.wp execOp
  simp only [ho, resolve, invoke, builtin, Sem.run_bind, Sem.run_pure, Result.andThen_ok, List.map_toArray, List.map_cons, List.map_nil, hs, hu, hr]
  exact hq v' w' h2 h3 h4
theorem wpList_append_own {ops : Array Oper} {rest : List Oper} {o : Oper} {a : Act} {Q : Exit → Act → World → Prop} (z : Value) (bytes : Nat) (hinf : (Tryz.prog.info? e).map (fun i => (i.zero, i.size, i.bytes)) = some (some z, sz, bytes)) (hz : z.cells.size = sz) (hsz : 0 < sz) (hgd : o.guard = none) (s u : Operand) (t : TypeId)
    (ho : o.op = .call { callee := .builtin .append, args := #[s, u], argTypes := #[t, t] }) (ht : Tryz.prog.underlying t = some (.slice e)) {B' : Nat}
    (hs : a.eval s = v) (hu : a.eval u = x) (h : w.ownsRow B e sz v n xs) (k : w.ownsRow B' e sz x 1 cs) (h1 : ∀ u ∈ cs, u.oneCell' = true) (hlen : n ≤ 1000000000) (hby : bytes ≤ 1000) (hB : B ≤ w.heap.size)
    (hq : ∀ v' w', w'.ownsRow B e sz v' (n + 1) (xs ++ cs) → w.grownBy w' v.ownBlock → (v'.ownBlock = v.ownBlock ∨ v'.ownBlock = some w.heap.size) → wpList Tryz.prog ops Q rest (a.put o.dst v') w') : wpList Tryz.prog ops Q (o :: rest) a w :=
  wpList_plain hgd fun _ hK => wp_append_own z bytes hinf hz hsz s u t ho ht hs hu h k h1 hlen hby hB fun v' w' h2 h3 h4 => hK _ _ (hq v' w' h2 h3 h4)
theorem step_append_own {ops : Array Oper} {o : Oper} {a : Act} {K : Act → World → Prop} {Q : Exit → Act → World → Prop} {E : Prop} (z : Value) (bytes : Nat) (hinf : (Tryz.prog.info? e).map (fun i => (i.zero, i.size, i.bytes)) = some (some z, sz, bytes)) (hz : z.cells.size = sz) (hsz : 0 < sz) (hgd : o.guard = none) (s u : Operand) (t : TypeId)
    (ho : o.op = .call { callee := .builtin .append, args := #[s, u], argTypes := #[t, t] }) (ht : Tryz.prog.underlying t = some (.slice e)) {B' : Nat}
    (hs : a.eval s = v) (hu : a.eval u = x) (h : w.ownsRow B e sz v n xs) (k : w.ownsRow B' e sz x 1 cs) (h1 : ∀ u ∈ cs, u.oneCell' = true) (hlen : n ≤ 1000000000) (hby : bytes ≤ 1000) (hB : B ≤ w.heap.size)
    (hq : ∀ v' w', w'.ownsRow B e sz v' (n + 1) (xs ++ cs) → w.grownBy w' v.ownBlock → (v'.ownBlock = v.ownBlock ∨ v'.ownBlock = some w.heap.size) → K (a.put o.dst v') w') :
    if Region.wanted o (yielded ops a.tmps) = true then Oper.wp Tryz.prog o a w K Q else E := by
  rw [if_pos (by simp [Region.wanted, hgd])]
  exact wp_append_own z bytes hinf hz hsz s u t ho ht hs hu h k h1 hlen hby hB hq
theorem Turns.appendedS (h : w.grownBy w' v.ownBlock) : Turns (fun g => v.ownBlock = some g) w w' := (Turns.refl _ w).grown h (fun _ hk _ => hk)
end

end Go.Proofs.YtpiekdcbjkgipaaGreatDoor

/- One's own row put behind one's own row, whatever the elements are: append. -/
namespace Go.Proofs.YtpiekdcbjkgipaaGreatDoor
open Go.RowKit

section
variable {w w' : World} {B m n sz : Nat} {e : TypeId} {v x : Value} {xs cs : List Value} {X : Nat → Prop}
/-- one's own row, nil or not, is put behind one's own row -/
theorem run_append_own_row (z : Value) (bytes : Nat) (hinf : (Tryz.prog.info? e).map (fun i => (i.zero, i.size, i.bytes)) = some (some z, sz, bytes)) (hz : z.cells.size = sz) (hsz : 0 < sz) (t ty : TypeId) (ht : Tryz.prog.underlying t = some (.slice e)) {B' : Nat}
    (h : w.ownsRow B e sz v n xs) (k : w.ownsRow B' e sz x m cs) (h1 : ∀ u ∈ cs, u.oneCell' = true) (hlen : n + m ≤ 1000000) (hby : bytes ≤ 1000) (hB : B ≤ w.heap.size) :
    ∃ v' w', (Builtin.append_ #[t, t] ty #[v, x]).run Tryz.prog w = .ok v' w' ∧ w'.ownsRow B e sz v' (n + m) (xs ++ cs) ∧ w.grownBy w' v.ownBlock ∧ (v'.ownBlock = v.ownBlock ∨ v'.ownBlock = some w.heap.size) := by
  obtain ⟨i0, hi, hz0, hz1, hz2⟩ := info_parts hinf
  rcases k.2 with ⟨rfl, hn⟩ | ⟨g, cap, cur, rfl, hb, hh, hc, hm, hs, hcur⟩
  · have hcs : cs = [] := List.eq_nil_of_length_eq_zero (by rw [k.1, hn]; simp)
    subst hcs
    subst hn
    exact ⟨v, w, run_append_owned_none w B t ty e i0 sz ht hi v _ _ h, by rw [List.append_nil]; exact h, World.grownBy.refl w _, .inl rfl⟩
  · have hcells : ∀ j u, cs[j]? = some u → w.cell? ((⟨g, 0, none⟩ : Addr).add j) = some u := by
      intro j u hu
      have hadd : (⟨g, 0, none⟩ : Addr).add j = ⟨g, j, none⟩ := by unfold Addr.add; split <;> simp_all
      rw [hadd, World.ownsRow.cellAt k j (by have := (List.getElem?_eq_some_iff.1 hu).1; have := k.1; omega), hu]
    have hbb : (n + m) * bytes ≤ 140737488355328 := by
      have := Nat.mul_le_mul hlen hby; omega
    obtain ⟨v', w', hr, h2, h3, _, h5⟩ := run_append_own_at (P := Tryz.prog) (ty := ty) w B t e i0 z sz bytes ht hi hz0 hz1 hz2 hz hsz v n xs h ⟨g, 0, none⟩ m cap cs k.1 hcells h1 (by unfold maxLen; omega) hbb hB
    exact ⟨v', w', hr, h2, h3, h5⟩
theorem wp_append_row {o : Oper} {a : Act} {K : Act → World → Prop} {Q : Exit → Act → World → Prop} (z : Value) (bytes : Nat) (hinf : (Tryz.prog.info? e).map (fun i => (i.zero, i.size, i.bytes)) = some (some z, sz, bytes)) (hz : z.cells.size = sz) (hsz : 0 < sz) (s u : Operand) (t : TypeId)
    (ho : o.op = .call { callee := .builtin .append, args := #[s, u], argTypes := #[t, t] }) (ht : Tryz.prog.underlying t = some (.slice e)) {B' : Nat}
    (hs : a.eval s = v) (hu : a.eval u = x) (h : w.ownsRow B e sz v n xs) (k : w.ownsRow B' e sz x m cs) (h1 : ∀ u ∈ cs, u.oneCell' = true) (hlen : n + m ≤ 1000000) (hby : bytes ≤ 1000) (hB : B ≤ w.heap.size)
    (hq : ∀ v' w', w'.ownsRow B e sz v' (n + m) (xs ++ cs) → w.grownBy w' v.ownBlock → (v'.ownBlock = v.ownBlock ∨ v'.ownBlock = some w.heap.size) → K (a.put o.dst v') w') : o.wp Tryz.prog a w K Q := by
  obtain ⟨v', w', hr, h2, h3, h4⟩ := run_append_own_row z bytes hinf hz hsz t o.type ht h k h1 hlen hby hB
  unfold Oper.wp execOp
  simp only [ho, resolve, invoke, builtin, Sem.run_bind, Sem.run_pure, Result.andThen_ok, List.map_toArray, List.map_cons, List.map_nil, hs, hu, hr]
  exact hq v' w' h2 h3 h4
theorem wpList_append_row {ops : Array Oper} {rest : List Oper} {o : Oper} {a : Act} {Q : Exit → Act → World → Prop} (z : Value) (bytes : Nat) (hinf : (Tryz.prog.info? e).map (fun i => (i.zero, i.size, i.bytes)) = some (some z, sz, bytes)) (hz : z.cells.size = sz) (hsz : 0 < sz) (hgd : o.guard = none) (s u : Operand) (t : TypeId)
    (ho : o.op = .call { callee := .builtin .append, args := #[s, u], argTypes := #[t, t] }) (ht : Tryz.prog.underlying t = some (.slice e)) {B' : Nat}
    (hs : a.eval s = v) (hu : a.eval u = x) (h : w.ownsRow B e sz v n xs) (k : w.ownsRow B' e sz x m cs) (h1 : ∀ u ∈ cs, u.oneCell' = true) (hlen : n + m ≤ 1000000) (hby : bytes ≤ 1000) (hB : B ≤ w.heap.size)
    (hq : ∀ v' w', w'.ownsRow B e sz v' (n + m) (xs ++ cs) → w.grownBy w' v.ownBlock → (v'.ownBlock = v.ownBlock ∨ v'.ownBlock = some w.heap.size) → wpList Tryz.prog ops Q rest (a.put o.dst v') w') : wpList Tryz.prog ops Q (o :: rest) a w :=
  wpList_plain hgd fun _ hK => wp_append_row z bytes hinf hz hsz s u t ho ht hs hu h k h1 hlen hby hB fun v' w' h2 h3 h4 => hK _ _ (hq v' w' h2 h3 h4)
end

end Go.Proofs.YtpiekdcbjkgipaaGreatDoor

/- The plain mathematics of layer 7: what stands where in a text. No dump is read here. -/
namespace Go.Proofs.YtpiekdcbjkgipaaGreatDoor.LM
open Go.RowKit

def blk (x : Int) : Bool := decide (x = 32 ∨ x = 9 ∨ x = 10 ∨ x = 13)
def dlm (x : Int) : Bool := decide (x = 32 ∨ x = 9 ∨ x = 10 ∨ x = 13 ∨ x = 40 ∨ x = 41 ∨ x = 34 ∨ x = 59 ∨ x = 39)
def nmb (x : Int) : Bool := decide (¬ (x = 32 ∨ x = 9 ∨ x = 10 ∨ x = 13 ∨ x = 40 ∨ x = 41 ∨ x = 34 ∨ x = 59 ∨ x = 39) ∧ x ≠ 44 ∧ x ≠ 96 ∧ x ≠ 35 ∧ 33 ≤ x ∧ x ≤ 126)
/-- what a byte is behind a stroke -/
def esc (c : UInt8) : Option UInt8 := if c = 110 then some 10 else if c = 116 then some 9 else if c = 92 ∨ c = 34 then some c else none

/-- within a remark, behind the byte x? -/
def nxn (n : Bool) (x : Int) : Bool := decide (x ≠ 10) && (n || decide (x = 59))
/-- how many blanks stand ahead -/
def skp : Bool → List UInt8 → Nat
  | _, [] => 0
  | n, c :: r => if !nxn n c.toNat && !blk c.toNat then 0 else skp (nxn n c.toNat) r + 1
/-- how long the word is -/
def wln : List UInt8 → Nat
  | [] => 0
  | c :: r => if dlm c.toNat then 0 else wln r + 1
/-- line and column behind some bytes -/
def mv : List UInt8 → Int → Int → Int × Int
  | [], l, k => (l, k)
  | c :: r, l, k => if (c.toNat : Int) = 10 then mv r (l + 1) 1 else mv r l (k + 1)

/-- a token, or an error's kind -/
structure Tk where
  e : Int
  k : Int
  n : Int
  s : List UInt8
  len : Nat
def tok (k n : Int) (s : List UInt8) (len : Nat) : Tk := ⟨0, k, n, s, len⟩
def bad (e : Int) : Tk := ⟨e, 0, 0, [], 0⟩

def sym (l : List UInt8) : Bool := decide (1 ≤ l.length ∧ l.length ≤ 60 ∧ l ≠ [46]) && (l.all (fun c => nmb c.toNat) && !FM.okd (FM.body l))
def wrd (w : List UInt8) : Tk :=
  if w = [46] then tok 8 0 [] 1 else if w = [35, 102] then tok 10 0 [] 2 else if w = [35, 116] then tok 10 1 [] 2
  else if FM.okd (FM.body w) then (if (FM.parse w).2 = 0 then tok 9 (FM.parse w).1 [] w.length else bad 11)
  else if sym w then tok 13 0 w w.length else bad 6
def sp1 : List UInt8 := [115, 112, 97, 99, 101]
def sp2 : List UInt8 := [110, 101, 119, 108, 105, 110, 101]
def sp3 : List UInt8 := [116, 97, 98]
def sp4 : List UInt8 := [110, 117, 108]
/-- the character that is called w; -1: none -/
def cho (w : List UInt8) : Int :=
  if w = sp1 then 32 else if w = sp2 then 10 else if w = sp3 then 9 else if w = sp4 then 0 else
  match w with
  | [c] => if (c.toNat : Int) ≤ 32 then -1 else c.toNat
  | _ => -1
def chr : List UInt8 → Tk
  | [] => bad 6
  | c :: q => if cho (c :: q.take (wln q)) = -1 then bad 6 else tok 11 (cho (c :: q.take (wln q))) [] (3 + wln q)
/-- the bytes of a string, behind its mark: an error's kind, the bytes, how many were written -/
def qt : List UInt8 → List UInt8 → Nat → Int × List UInt8 × Nat
  | [], _, _ => (5, [], 0)
  | c :: r, t, n => if c = 34 then (0, t, n + 1) else if c = 92 then
      match r with
      | [] => (5, [], 0)
      | d :: r' => match esc d with
        | none => (6, [], 0)
        | some x => qt r' (t ++ [x]) (n + 2)
    else qt r (t ++ [c]) (n + 1)
def ofq (q : Int × List UInt8 × Nat) : Tk := if q.1 ≠ 0 then bad q.1 else if 500 < q.2.1.length then bad 14 else tok 12 0 q.2.1 q.2.2
/-- the first byte -/
def hd : List UInt8 → Int
  | [] => -1
  | c :: _ => c.toNat
def scn : List UInt8 → Tk
  | [] => tok 14 0 [] 0
  | c :: r => if (c.toNat : Int) = 44 then (if hd r = 64 then tok 7 0 [] 2 else tok 6 0 [] 1)
    else if (c.toNat : Int) = 35 ∧ hd r = 40 then tok 3 0 [] 2
    else if (c.toNat : Int) = 35 ∧ hd r = 92 then chr (r.drop 1)
    else if (c.toNat : Int) = 40 then tok 1 0 [] 1
    else if (c.toNat : Int) = 41 then tok 2 0 [] 1
    else if (c.toNat : Int) = 39 then tok 4 0 [] 1
    else if (c.toNat : Int) = 96 then tok 5 0 [] 1
    else if (c.toNat : Int) = 34 then ofq (qt r [] 1)
    else wrd ((c :: r).take (wln (c :: r)))
/-- the next token, behind blanks: what it is, its place, and how many bytes there are up to its end -/
structure Nx where
  t : Tk
  line : Int
  col : Int
  len : Nat
def nx (l : List UInt8) (line col : Int) : Nx :=
  ⟨scn (l.drop (skp false l)), (mv (l.take (skp false l)) line col).1, (mv (l.take (skp false l)) line col).2, skp false l + (scn (l.drop (skp false l))).len⟩

/-! ### small facts -/
theorem skp_le (n : Bool) (l : List UInt8) : skp n l ≤ l.length := by
  induction l generalizing n with
  | nil => simp [skp]
  | cons c r ih => unfold skp; split; omega; have := ih (nxn n c.toNat); simp; omega
theorem wln_le (l : List UInt8) : wln l ≤ l.length := by
  induction l with
  | nil => simp [wln]
  | cons c r ih => unfold wln; split; omega; simp; omega
end Go.Proofs.YtpiekdcbjkgipaaGreatDoor.LM

/- Slices that the call itself has made: bytes; tokens. -/
namespace Go.Proofs.YtpiekdcbjkgipaaGreatDoor
open Go.RowKit

/-! ### bytes -/
theorem Tryz.infoByte : (Tryz.prog.info? 5).map (fun i => (i.zero, i.size, i.bytes)) = some (some (.int .u8 0), 1, 1) := by kernel_rfl
/-- v is a slice of just these bytes, nil or in a block of its own from B on -/
def OwnB (w : World) (B : Nat) (v : Value) (l : List UInt8) : Prop := w.ownsRow B 5 1 v l.length (Lib.byteCells l)
theorem OwnB.none_ (w : World) (B : Nat) : OwnB w B (.slice none 0 0) [] := own_none w B _ 1
theorem OwnB.read {w : World} {B : Nat} {v : Value} {l : List UInt8} (h : OwnB w B v l) : ∃ A c, v = .slice A l.length c := by
  obtain ⟨A, c, e, _⟩ := own_read h; exact ⟨A, c, e⟩
theorem byte_push (l : List UInt8) (c : UInt8) : Lib.byteCells l ++ [Value.int .u8 (c.toNat : Int)] = Lib.byteCells (l ++ [c]) := by simp [Lib.byteCells]
theorem fold_bytes : ∀ (l : List UInt8) (r : ByteArray), ((l.map (fun c => (c.toNat : Int))).foldl (fun (r : ByteArray) n => r.push (UInt8.ofNat n.toNat)) r).data.toList = r.data.toList ++ l
  | [], r => by simp
  | x :: l, r => by
    rw [List.map_cons, List.foldl_cons, fold_bytes l]
    simp [ByteArray.push]
theorem bytes_ext {a b : ByteArray} (h : a.data.toList = b.data.toList) : a = b := by
  cases a; cases b; congr; exact Array.toList_inj.1 h
theorem OwnB.conv {w : World} {B : Nat} {v : Value} {l : List UInt8} (h : OwnB w B v l) :
    (convert 61 9 v).run Tryz.prog w = .ok (.string ⟨l.toArray⟩) w := by
  obtain ⟨A, c, rfl, hr⟩ := own_read h
  rw [run_convert_bytes_string _ _ _ 5 _ _ _ Tryz.underlying61 Tryz.underlying5 Tryz.underlying9]
  cases A with
  | none =>
    have hl : l.length = 0 := by
      rcases Nat.eq_zero_or_pos l.length with h0 | h0
      · exact h0
      · obtain ⟨g, hg, _⟩ := hr 0 (by omega); cases hg
    have : l = [] := List.eq_nil_of_length_eq_zero hl
    subst this
    simp [Conv.bytesToString]
    rfl
  | some a =>
    have := run_bytesToString (P := Tryz.prog) w a l.length c (l.map (fun c => (c.toNat : Int))) (by
      have h2 := run_loadCells_list (P := Tryz.prog) (w := w) a (Lib.byteCells l) (fun j v hj => by
        have hjl : j < l.length := by have := (List.getElem?_eq_some_iff.1 hj).1; simpa [Lib.byteCells] using this
        obtain ⟨g, hg, _, _, hc⟩ := hr j (by omega)
        cases hg
        have hadd : (⟨g, 0, none⟩ : Addr).add j = ⟨g, j, none⟩ := by unfold Addr.add; split <;> simp_all
        rw [hadd, hc, hj])
      rw [Lib.byteCells_length] at h2
      rw [h2]
      simp [Lib.byteCells])
    rw [this]
    congr 2
    apply bytes_ext
    rw [fold_bytes]
    rfl

/-! ### tokens -/
end Go.Proofs.YtpiekdcbjkgipaaGreatDoor

/- More of the plain mathematics of layer 7: how long tokens are. No dump is read here. -/
namespace Go.Proofs.YtpiekdcbjkgipaaGreatDoor.LM
open Go.RowKit

theorem hd_some {r : List UInt8} {x : Int} (h : hd r = x) (hx : 0 ≤ x) : ∃ c q, r = c :: q ∧ (c.toNat : Int) = x := by
  cases r with
  | nil => simp [hd] at h; omega
  | cons c q => exact ⟨c, q, rfl, h⟩
theorem qt_len : ∀ (N : Nat) (l t : List UInt8) (n : Nat), l.length ≤ N → (qt l t n).2.2 ≤ n + l.length
  | _, [], t, n, _ => by simp [qt]
  | 0, c :: r, t, n, h => by simp at h
  | N + 1, c :: r, t, n, h => by
    have hl : r.length ≤ N := by simpa using h
    rw [qt.eq_def]
    simp only
    split
    · simp
    · split
      · cases r with
        | nil => simp
        | cons d r' =>
          simp only
          cases esc d with
          | none => simp
          | some x =>
            have := qt_len N r' (t ++ [x]) (n + 2) (by simp at hl; omega)
            simp only [List.length_cons] at this ⊢; omega
      · have := qt_len N r (t ++ [c]) (n + 1) hl
        simp only [List.length_cons] at this ⊢; omega
/-- a string that ends took as many bytes as its mark, and one more at least -/
theorem qt_pos : ∀ (N : Nat) (l t : List UInt8) (n : Nat), l.length ≤ N → (qt l t n).1 = 0 → n + 1 ≤ (qt l t n).2.2
  | _, [], t, n, _ => by simp [qt]
  | 0, c :: r, t, n, h => by simp at h
  | N + 1, c :: r, t, n, h => by
    have hl : r.length ≤ N := by simpa using h
    rw [qt.eq_def]
    simp only
    split
    · simp
    · split
      · cases r with
        | nil => simp
        | cons d r' =>
          simp only
          cases esc d with
          | none => simp
          | some x =>
            intro h0
            have h3 := qt_pos N r' (t ++ [x]) (n + 2) (by simp at hl; omega) h0
            exact Nat.le_trans (by omega) h3
      · intro h0
        have := qt_pos N r (t ++ [c]) (n + 1) hl h0
        omega
theorem wrd_tok (w : List UInt8) : (wrd w).len ≤ w.length ∧ ((wrd w).e = 0 → (wrd w).len = w.length ∧ (wrd w).k ≠ 14) := by
  unfold wrd
  split
  · rename_i h; subst h; simp [tok]
  · split
    · rename_i h; subst h; simp [tok]
    · split
      · rename_i h; subst h; simp [tok]
      · split
        · split
          · simp [tok]
          · simp [bad]
        · split
          · simp [tok]
          · simp [bad]
theorem ofq_len (q : Int × List UInt8 × Nat) : (ofq q).len ≤ q.2.2 ∧ ((ofq q).e = 0 → q.1 = 0 ∧ (ofq q).len = q.2.2 ∧ (ofq q).k = 12) := by
  unfold ofq
  split
  · rename_i h; simp [bad]; intro h2; exact absurd h2 h
  · split
    · simp [bad]
    · rename_i h _; simp [tok]; simpa using h
theorem chr_eq (c : UInt8) (q : List UInt8) : chr (c :: q) = if cho (c :: q.take (wln q)) = -1 then bad 6 else tok 11 (cho (c :: q.take (wln q))) [] (3 + wln q) := rfl
theorem scn_eq (c : UInt8) (r : List UInt8) : scn (c :: r) = if (c.toNat : Int) = 44 then (if hd r = 64 then tok 7 0 [] 2 else tok 6 0 [] 1)
    else if (c.toNat : Int) = 35 ∧ hd r = 40 then tok 3 0 [] 2
    else if (c.toNat : Int) = 35 ∧ hd r = 92 then chr (r.drop 1)
    else if (c.toNat : Int) = 40 then tok 1 0 [] 1
    else if (c.toNat : Int) = 41 then tok 2 0 [] 1
    else if (c.toNat : Int) = 39 then tok 4 0 [] 1
    else if (c.toNat : Int) = 96 then tok 5 0 [] 1
    else if (c.toNat : Int) = 34 then ofq (qt r [] 1)
    else wrd ((c :: r).take (wln (c :: r))) := rfl
theorem chr_len (q : List UInt8) : (chr q).len ≤ 2 + q.length ∧ ((chr q).e = 0 → 3 ≤ (chr q).len ∧ (chr q).k = 11) := by
  cases q with
  | nil => simp [chr, bad]
  | cons c q =>
    have := wln_le q
    rw [chr_eq]
    by_cases h : cho (c :: q.take (wln q)) = -1
    · rw [if_pos h]; simp [bad]
    · rw [if_neg h]; simp [tok]; omega
theorem scn_len (l : List UInt8) : (scn l).len ≤ l.length := by
  cases l with
  | nil => simp [scn, tok]
  | cons c r =>
    rw [scn_eq]
    by_cases h1 : (c.toNat : Int) = 44
    · rw [if_pos h1]
      by_cases h : hd r = 64
      · rw [if_pos h]
        obtain ⟨d, q, rfl, _⟩ := hd_some h (by omega)
        simp [tok]
      · rw [if_neg h]; simp [tok]
    rw [if_neg h1]
    by_cases h2 : (c.toNat : Int) = 35 ∧ hd r = 40
    · rw [if_pos h2]
      obtain ⟨d, q, rfl, _⟩ := hd_some h2.2 (by omega)
      simp [tok]
    rw [if_neg h2]
    by_cases h3 : (c.toNat : Int) = 35 ∧ hd r = 92
    · rw [if_pos h3]
      obtain ⟨d, q, rfl, _⟩ := hd_some h3.2 (by omega)
      have := (chr_len q).1
      simp only [List.drop_succ_cons, List.drop_zero, List.length_cons]; omega
    rw [if_neg h3]
    have e1 : ∀ k, (tok k 0 [] 1).len ≤ (c :: r).length := fun k => by simp [tok]
    by_cases h4 : (c.toNat : Int) = 40
    · rw [if_pos h4]; exact e1 _
    rw [if_neg h4]
    by_cases h5 : (c.toNat : Int) = 41
    · rw [if_pos h5]; exact e1 _
    rw [if_neg h5]
    by_cases h6 : (c.toNat : Int) = 39
    · rw [if_pos h6]; exact e1 _
    rw [if_neg h6]
    by_cases h7 : (c.toNat : Int) = 96
    · rw [if_pos h7]; exact e1 _
    rw [if_neg h7]
    by_cases h8 : (c.toNat : Int) = 34
    · rw [if_pos h8]
      have g1 := (ofq_len (qt r [] 1)).1
      have g2 := qt_len r.length r [] 1 (Nat.le_refl _)
      simp only [List.length_cons]; omega
    rw [if_neg h8]
    have g1 := (wrd_tok ((c :: r).take (wln (c :: r)))).1
    have g2 : ((c :: r).take (wln (c :: r))).length ≤ (c :: r).length := List.length_take_le' _ _
    omega
/-- a token that isn't the end has a byte at least -/
theorem scn_pos (c : UInt8) (r : List UInt8) (hb : dlm c.toNat = false ∨ (c.toNat : Int) = 40 ∨ (c.toNat : Int) = 41 ∨ (c.toNat : Int) = 34 ∨ (c.toNat : Int) = 39) (he : (scn (c :: r)).e = 0) : 1 ≤ (scn (c :: r)).len ∧ (scn (c :: r)).k ≠ 14 := by
  rw [scn_eq] at he ⊢
  by_cases h1 : (c.toNat : Int) = 44
  · rw [if_pos h1]
    by_cases h : hd r = 64
    · rw [if_pos h]; simp [tok]
    · rw [if_neg h]; simp [tok]
  rw [if_neg h1] at he ⊢
  by_cases h2 : (c.toNat : Int) = 35 ∧ hd r = 40
  · rw [if_pos h2]; simp [tok]
  rw [if_neg h2] at he ⊢
  by_cases h3 : (c.toNat : Int) = 35 ∧ hd r = 92
  · rw [if_pos h3] at he ⊢
    have := (chr_len (r.drop 1)).2 he
    rw [this.2]; exact ⟨by omega, by decide⟩
  rw [if_neg h3] at he ⊢
  by_cases h4 : (c.toNat : Int) = 40
  · rw [if_pos h4]; simp [tok]
  rw [if_neg h4] at he ⊢
  by_cases h5 : (c.toNat : Int) = 41
  · rw [if_pos h5]; simp [tok]
  rw [if_neg h5] at he ⊢
  by_cases h6 : (c.toNat : Int) = 39
  · rw [if_pos h6]; simp [tok]
  rw [if_neg h6] at he ⊢
  by_cases h7 : (c.toNat : Int) = 96
  · rw [if_pos h7]; simp [tok]
  rw [if_neg h7] at he ⊢
  by_cases h8 : (c.toNat : Int) = 34
  · rw [if_pos h8] at he ⊢
    have g1 := (ofq_len (qt r [] 1)).2 he
    have g2 := qt_pos r.length r [] 1 (Nat.le_refl _) g1.1
    rw [g1.2.1, g1.2.2]; exact ⟨by omega, by decide⟩
  rw [if_neg h8] at he ⊢
  have h9 := (wrd_tok ((c :: r).take (wln (c :: r)))).2 he
  have hd : dlm c.toNat = false := by
    rcases hb with h | h | h | h | h
    · exact h
    · exact absurd h h4
    · exact absurd h h5
    · exact absurd h h8
    · exact absurd h h6
  have hw : wln (c :: r) = wln r + 1 := by rw [wln, hd]; rfl
  refine ⟨?_, h9.2⟩
  rw [h9.1, hw, List.take_succ_cons]; simp
/-- behind blanks stands the end, or no blank -/
theorem skp_stands (n : Bool) (l : List UInt8) : l.drop (skp n l) = [] ∨ ∃ c r, l.drop (skp n l) = c :: r ∧ blk c.toNat = false ∧ (c.toNat : Int) ≠ 59 := by
  induction l generalizing n with
  | nil => left; rfl
  | cons c r ih =>
    unfold skp
    split
    · rename_i h
      right
      simp only [Bool.and_eq_true, Bool.not_eq_true'] at h
      refine ⟨c, r, rfl, h.2, fun h59 => ?_⟩
      have h1 := h.1
      unfold nxn at h1
      rw [h59] at h1
      simp at h1
    · rw [List.drop_succ_cons]; exact ih _
/-- the next token: it is the end just if nothing but blanks is left; else it has a byte at least -/
theorem nx_end (l : List UInt8) (a b : Int) (he : (nx l a b).t.e = 0) : ((nx l a b).t.k = 14 ∧ (nx l a b).len = l.length ∧ l.drop (skp false l) = []) ∨ ((nx l a b).t.k ≠ 14 ∧ 1 ≤ (nx l a b).t.len ∧ skp false l + 1 ≤ (nx l a b).len ∧ (nx l a b).len ≤ l.length) := by
  have hs := skp_le false l
  have hl := scn_len (l.drop (skp false l))
  rw [List.length_drop] at hl
  rcases skp_stands false l with h | ⟨c, r, h, h1, h2⟩
  · left
    unfold nx at he ⊢
    simp only at he ⊢
    have h0 := congrArg List.length h
    rw [List.length_drop, List.length_nil] at h0
    rw [h]
    refine ⟨rfl, ?_, rfl⟩
    show skp false l + 0 = l.length
    omega
  · right
    unfold nx at he ⊢
    simp only at he ⊢
    rw [h] at he hl ⊢
    have hp := scn_pos c r (by
      by_cases hd : dlm c.toNat = false
      · exact .inl hd
      · right
        have hd' : dlm c.toNat = true := by simpa using hd
        unfold dlm at hd'
        unfold blk at h1
        simp at hd' h1
        omega) he
    exact ⟨hp.2, hp.1, by omega, by omega⟩
end Go.Proofs.YtpiekdcbjkgipaaGreatDoor.LM
