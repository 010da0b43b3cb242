/- The plain mathematics of layer 11: places, aliases, and what a name means where. No dump is read here. -/
import Derived.Test.YtbomodendobnkaaGreatQ2
import Derived.Lib.CutLaws
import Derived.Test.YtbomodendobnkaaGreatMem
import Derived.Test.YtbomodendobnkaaGreatRows
import Derived.Maps.OwnSet
import Derived.StringKeys
namespace Go.Proofs.YtbomodendobnkaaGreat.EM
open Go.RowKit

/-- may it be a symbol's name? -/
def sy (x : ByteArray) : Bool := LM.sym x.data.toList
/-- a place: within which one, which name, what it means -/
structure Pl where
  up : Nat
  nm : ByteArray
  k : Int
  n : Int
/-- what binds: a place, and the name there -/
structure Bd where
  at_ : Nat
  nm : ByteArray
deriving DecidableEq
/-- a table -/
structure Tb where
  tp : ByteArray → Option (Int × Int)
  nt : Nat
  P : List Pl
  A : ByteArray → Option Bd
  na : Nat

def Ups (P : List Pl) : Prop := ∀ (i : Nat) p, P[i]? = some p → p.up ≤ i
def near (P : List Pl) (x : ByteArray) : Nat → Nat → Nat
  | 0, _ => 0
  | f + 1, a => if a = 0 then 0 else match P[a - 1]? with
    | none => 0
    | some p => if p.nm = x then a else near P x f p.up
/-- the nearest place, from a on, that binds x; 0: none -/
def nr (P : List Pl) (x : ByteArray) (a : Nat) : Nat := near P x a a

theorem near_zero (P : List Pl) (x : ByteArray) (f : Nat) : near P x f 0 = 0 := by cases f <;> simp [near]
theorem nr_zero (P : List Pl) (x : ByteArray) : nr P x 0 = 0 := rfl
theorem near_fuel {P : List Pl} (h : Ups P) (x : ByteArray) : ∀ (f g a : Nat), a ≤ f → a ≤ g → near P x f a = near P x g a
  | 0, g, a, h1, _ => by obtain rfl : a = 0 := by omega
                         rw [near_zero, near_zero]
  | f + 1, 0, a, _, h2 => by obtain rfl : a = 0 := by omega
                             rw [near_zero, near_zero]
  | f + 1, g + 1, a, h1, h2 => by
    unfold near
    by_cases ha : a = 0
    · rw [if_pos ha, if_pos ha]
    · rw [if_neg ha, if_neg ha]
      cases hp : P[a - 1]? with
      | none => rfl
      | some p =>
        have hu := h _ p hp
        simp only
        rw [near_fuel h x f g p.up (by omega) (by omega)]
theorem nr_step {P : List Pl} (h : Ups P) (x : ByteArray) {a : Nat} {p : Pl} (ha : 0 < a) (hp : P[a - 1]? = some p) : nr P x a = if p.nm = x then a else nr P x p.up := by
  have hu := h _ p hp
  show near P x a a = _
  obtain ⟨b, rfl⟩ : ∃ b, a = b + 1 := ⟨a - 1, by omega⟩
  unfold near
  rw [if_neg (by omega), hp]
  simp only
  rw [near_fuel h x b p.up p.up (by omega) (Nat.le_refl _)]
  rfl
theorem near_le {P : List Pl} (h : Ups P) (x : ByteArray) : ∀ (f a : Nat), near P x f a ≤ a
  | 0, a => Nat.zero_le _
  | f + 1, a => by
    unfold near
    by_cases ha : a = 0
    · rw [if_pos ha]; omega
    · rw [if_neg ha]
      cases hp : P[a - 1]? with
      | none => exact Nat.zero_le _
      | some p =>
        have hu := h _ p hp
        simp only
        split
        · exact Nat.le_refl _
        · have := near_le h x f p.up; omega
theorem nr_le {P : List Pl} (h : Ups P) (x : ByteArray) (a : Nat) : nr P x a ≤ a := near_le h x a a
theorem near_hit {P : List Pl} (x : ByteArray) : ∀ (f a : Nat), near P x f a ≠ 0 → ∃ p, P[near P x f a - 1]? = some p ∧ p.nm = x
  | 0, a, h => absurd rfl h
  | f + 1, a, h => by
    unfold near at h ⊢
    by_cases ha : a = 0
    · rw [if_pos ha] at h; exact absurd rfl h
    · rw [if_neg ha] at h ⊢
      cases hp : P[a - 1]? with
      | none => rw [hp] at h; exact absurd rfl h
      | some p =>
        rw [hp] at h
        simp only at h ⊢
        by_cases hn : p.nm = x
        · rw [if_pos hn]; exact ⟨p, hp, hn⟩
        · rw [if_neg hn] at h ⊢; exact near_hit x f p.up h
theorem nr_hit {P : List Pl} {x : ByteArray} {a : Nat} (h : nr P x a ≠ 0) : ∃ p, P[nr P x a - 1]? = some p ∧ p.nm = x := near_hit x a a h
theorem nr_none {P : List Pl} {x : ByteArray} {a : Nat} (h : ∀ p ∈ P, p.nm ≠ x) : nr P x a = 0 := by
  apply Decidable.byContradiction
  intro hn
  obtain ⟨p, hp, e⟩ := nr_hit hn
  exact h p (List.mem_of_getElem? hp) e
theorem near_append {P Q : List Pl} (h : Ups P) (x : ByteArray) : ∀ (f a : Nat), a ≤ P.length → near (P ++ Q) x f a = near P x f a
  | 0, a, _ => rfl
  | f + 1, a, h1 => by
    unfold near
    by_cases ha : a = 0
    · rw [if_pos ha, if_pos ha]
    · rw [if_neg ha, if_neg ha, List.getElem?_append_left (by omega)]
      cases hp : P[a - 1]? with
      | none => rfl
      | some p =>
        have hu := h _ p hp
        simp only
        rw [near_append h x f p.up (by omega)]
theorem nr_append {P Q : List Pl} (h : Ups P) (x : ByteArray) {a : Nat} (ha : a ≤ P.length) : nr (P ++ Q) x a = nr P x a := near_append h x a a ha
theorem Ups.snoc {P : List Pl} (h : Ups P) {p : Pl} (hp : p.up ≤ P.length) : Ups (P ++ [p]) := by
  intro i q hq
  by_cases hi : i < P.length
  · rw [List.getElem?_append_left hi] at hq; exact h i q hq
  · rw [List.getElem?_append_right (by omega)] at hq
    have hl := (List.getElem?_eq_some_iff.1 hq).1
    simp only [List.length_cons, List.length_nil] at hl
    obtain rfl : i = P.length := by omega
    simp at hq; subst hq; exact hp

/-- what binds x at a -/
def bs (T : Tb) (a : Nat) (x : ByteArray) : Bd := if nr T.P x a = 0 then (T.A x).getD ⟨0, x⟩ else ⟨nr T.P x a, x⟩
/-- what it gives -/
def mean (T : Tb) (b : Bd) : Int × Int := if b.at_ = 0 then (T.tp b.nm).getD (0, 0) else match T.P[b.at_ - 1]? with
  | some p => (p.k, p.n)
  | none => (0, 0)
/-- 1: a symbol; 2: an alias; 0: no name -/
def kd (T : Tb) (x : ByteArray) : Nat := if sy x = true then 1 else if (T.A x).isSome = true then 2 else 0
/-- the error of a name at a place -/
def ck (T : Tb) (a : Int) (x : ByteArray) : Int := if a < 0 ∨ (T.P.length : Int) < a then 3 else if kd T x = 0 then 2 else 0
def pre (x : ByteArray) : ByteArray := ⟨(Lib.cut x.data.toList [32]).1.toArray⟩
def st (T : Tb) (x : ByteArray) : ByteArray := if kd T x = 2 then pre x else if kd T x = 1 then x else ByteArray.empty
def sp : ByteArray := ⟨#[32]⟩
def call (s : ByteArray) (k : Nat) : ByteArray := s ++ sp ++ ⟨(Lib.itoa (k : Int)).toArray⟩

/-- Top -/
def tset (f : ByteArray → Option (Int × Int)) (x : ByteArray) (k n : Int) : ByteArray → Option (Int × Int) := fun y => if y = x then (if k = 0 then none else some (k, n)) else f y
def top (T : Tb) (x : ByteArray) (k n : Int) : Tb := if sy x = true ∧ 0 ≤ k ∧ k ≤ 3 then { T with tp := tset T.tp x k n, nt := T.nt + 1 } else T
/-- Extend's error -/
def xe (T : Tb) (a : Int) (x : ByteArray) (k : Int) : Int := if ck T a x ≠ 0 then ck T a x else if k < 1 ∨ 3 < k then 2 else if 65536 ≤ T.P.length then 14 else 0
def ext (T : Tb) (a : Int) (x : ByteArray) (k n : Int) : Tb := if xe T a x k = 0 then { T with P := T.P ++ [⟨a.toNat, x, k, n⟩] } else T
/-- Alias's error -/
def ae (T : Tb) (a : Int) (x : ByteArray) : Int := if ck T a x ≠ 0 then ck T a x else if 65536 ≤ T.na then 14 else 0
def aset (f : ByteArray → Option Bd) (x : ByteArray) (b : Bd) : ByteArray → Option Bd := fun y => if y = x then some b else f y
def nam (T : Tb) (x : ByteArray) : ByteArray := call (st T x) (T.na + 1)
def ali (T : Tb) (a : Int) (x : ByteArray) : Tb := if ae T a x = 0 then { T with A := aset T.A (nam T x) (bs T a.toNat x), na := T.na + 1 } else T
end Go.Proofs.YtbomodendobnkaaGreat.EM

/- Maps from strings that the call itself has made, or none: what they hold at each key, and how many keys they have. -/
namespace Go.Proofs.YtbomodendobnkaaGreat
open Go.RowKit Go.Maps

theorem Tryz.keyString : Keyed Tryz.prog 9 := string_keyed Tryz.underlying9

/-- how elements of a kind lie and read -/
structure Enc (α : Type) where
  V : α → Value
  E : α → DataW Unit
  dec : Value → Option α
  dv : ∀ a, dec (V a) = some a
  vd : ∀ v a, dec v = some a → v = V a
  inj : ∀ a b, E a = E b → a = b

section
variable {α : Type} {c : Enc α}
def Enc.R (c : Enc α) (v : Value) : Option (DataW Unit × List MemPlace) := (c.dec v).map fun a => (c.E a, [])
theorem Enc.R_mk (c : Enc α) (a : α) : c.R (c.V a) = some (c.E a, []) := by simp [Enc.R, c.dv]
theorem Enc.R_inv {v : Value} {a : α} {ps : List MemPlace} (h : c.R v = some (c.E a, ps)) : v = c.V a := by
  unfold Enc.R at h
  cases hd : c.dec v with
  | none => rw [hd] at h; cases h
  | some b =>
    rw [hd] at h
    simp only [Option.map_some, Option.some.injEq, Prod.mk.injEq] at h
    rw [c.vd v b hd, c.inj b a h.1]

/-- block q is a map of n keys: at the key b it holds S b -/
def Sm (c : Enc α) (w : World) (q n : Nat) (S : ByteArray → Option α) : Prop :=
  ∃ D, w.ownsMap Tryz.prog 9 c.R q n D ∧ Maps.size D = n ∧ ∀ b : ByteArray, Maps.has D (.string b.data.toList) = (S b).isSome ∧ ∀ z, D.atKey (.string b.data.toList) (c.E z) = c.E ((S b).getD z)
/-- m is such a map from block B on, or no map and nothing is held -/
def Mv (c : Enc α) (w : World) (B : Nat) (m : Value) (n : Nat) (S : ByteArray → Option α) : Prop :=
  (m = .map none ∧ n = 0 ∧ ∀ b, S b = none) ∨ ∃ q, m = .map (some q) ∧ B ≤ q ∧ Sm c w q n S

variable {w w' : World} {q n B : Nat} {S : ByteArray → Option α} {m : Value}
theorem Sm.made (c : Enc α) (w : World) : Sm c (w.alloc (.map #[] 0)) w.heap.size 0 (fun _ => none) :=
  ⟨.map [], World.ownsMap_made w _ _ _, rfl, fun _ => ⟨rfl, fun _ => rfl⟩⟩
theorem Sm.lt (h : Sm c w q n S) : q < w.heap.size := by
  obtain ⟨D, h, _⟩ := h
  exact h.lt
theorem Sm.turns {X : Nat → Prop} (h : Sm c w q n S) (k : Turns X w w') (hx : ¬ X q) : Sm c w' q n S := by
  have hlt := h.lt
  obtain ⟨D, ⟨es, clock, hb, r⟩, hD⟩ := h
  exact ⟨D, ⟨es, clock, (k.block q hlt hx).trans hb, r⟩, hD⟩
theorem Sm.apart {g : Nat} {t : TypeId} {cs : List Value} (h : Sm c w q n S) (k : Lies w g t cs) : q ≠ g := by
  intro e
  subst e
  obtain ⟨D, ⟨es, clock, hb, _⟩, _⟩ := h
  unfold Lies at k
  rw [hb] at k
  cases k
theorem Sm.not_row {e : TypeId} {B' sz m : Nat} {v : Value} {cs : List Value} (h : Sm c w q n S) (k : w.ownsRow B' e sz v m cs) : v.ownBlock ≠ some q := by
  intro hj
  rcases k.2 with ⟨rfl, _⟩ | ⟨g', cap, cur, rfl, _, hh, _⟩
  · simp [Value.ownBlock] at hj
  · have : g' = q := by simpa [Value.ownBlock] using hj
    subst this
    obtain ⟨D, ⟨es, clock, hb, _⟩, _⟩ := h
    rw [hb] at hh
    cases hh
theorem key_of {b : ByteArray} (hb : b.size ≤ maxLen) : keyOf Tryz.prog 9 (.string b) = some (.string b.data.toList) := Go.WideMaps.keyOf_string_mk Tryz.underlying9 hb
/-- m[b] -/
theorem Sm.look (h : Sm c w q n S) {t e : TypeId} (ht : Tryz.prog.underlying t = some (.map 9 e)) {z : α} (hz : ∀ w, (zeroValue e).run Tryz.prog w = .ok (c.V z) w) {b : ByteArray} (hb : b.size ≤ maxLen) :
    (Instr.lookup t (.map (some q)) (.string b) false).run Tryz.prog w = .ok (c.V ((S b).getD z)) w := by
  obtain ⟨D, h1, h2, h3⟩ := h
  obtain ⟨v, ps, hrun, hat⟩ := h1.lookup Tryz.keyString ht (hz w) (c.R_mk z) (key_of hb)
  rw [(h3 b).2 z] at hat
  rw [hrun, Enc.R_inv hat]
/-- v, ok := m[b] -/
theorem Sm.look_ok (h : Sm c w q n S) {t e : TypeId} (ht : Tryz.prog.underlying t = some (.map 9 e)) {z : α} (hz : ∀ w, (zeroValue e).run Tryz.prog w = .ok (c.V z) w) {b : ByteArray} (hb : b.size ≤ maxLen) :
    (Instr.lookup t (.map (some q)) (.string b) true).run Tryz.prog w = .ok (.tuple #[c.V ((S b).getD z), .bool (S b).isSome]) w := by
  obtain ⟨D, h1, h2, h3⟩ := h
  obtain ⟨v, ps, hrun, hat⟩ := h1.look_ok Tryz.keyString ht (hz w) (c.R_mk z) (key_of hb)
  rw [(h3 b).2 z] at hat
  rw [hrun, Enc.R_inv hat, (h3 b).1]
theorem Mv.look (h : Mv c w B m n S) {t e : TypeId} (ht : Tryz.prog.underlying t = some (.map 9 e)) {z : α} (hz : ∀ w, (zeroValue e).run Tryz.prog w = .ok (c.V z) w) {b : ByteArray} (hb : b.size ≤ maxLen) :
    (Instr.lookup t m (.string b) false).run Tryz.prog w = .ok (c.V ((S b).getD z)) w := by
  rcases h with ⟨rfl, _, h⟩ | ⟨q, rfl, _, h⟩
  · rw [Maps.look_nil false Tryz.keyString ht (hz w) (key_of hb), h b]; rfl
  · exact h.look ht hz hb
theorem Mv.look_ok (h : Mv c w B m n S) {t e : TypeId} (ht : Tryz.prog.underlying t = some (.map 9 e)) {z : α} (hz : ∀ w, (zeroValue e).run Tryz.prog w = .ok (c.V z) w) {b : ByteArray} (hb : b.size ≤ maxLen) :
    (Instr.lookup t m (.string b) true).run Tryz.prog w = .ok (.tuple #[c.V ((S b).getD z), .bool (S b).isSome]) w := by
  rcases h with ⟨rfl, _, h⟩ | ⟨q, rfl, _, h⟩
  · rw [Maps.look_nil true Tryz.keyString ht (hz w) (key_of hb), h b]; rfl
  · exact h.look_ok ht hz hb
/-- len(m) -/
theorem Mv.len (h : Mv c w B m n S) {t e : TypeId} (ht : Tryz.prog.underlying t = some (.map 9 e)) (ty : TypeId) :
    (Builtin.len_ #[t] ty #[m]).run Tryz.prog w = .ok (.int .i64 n) w := by
  rcases h with ⟨rfl, rfl, h⟩ | ⟨q, rfl, _, D, h1, h2, h3⟩
  · rw [Maps.len_nil ht ty]; rfl
  · rw [h1.len ht ty, h2]
theorem lits_ne {a b : ByteArray} (h : a ≠ b) : Lit.string a.data.toList ≠ Lit.string b.data.toList := fun e => h (by
  injection e with e
  cases a; cases b; congr; exact Array.toList_inj.1 e)
def sput (S : ByteArray → Option α) (b : ByteArray) (v : Option α) : ByteArray → Option α := fun y => if y = b then v else S y
theorem isKey_str (l : List UInt8) : WideAt.IsKeyLit (.string l) := trivial
set_option maxRecDepth 100000 in
/-- m[b] = a -/
theorem Sm.put (h : Sm c w q n S) {t e : TypeId} (ht : Tryz.prog.underlying t = some (.map 9 e)) (hn : n ≤ 1000000000) {b : ByteArray} (hb : b.size ≤ maxLen) (a : α) :
    ∃ w', (Instr.mapUpdate t (.map (some q)) (.string b) (c.V a)).run Tryz.prog w = .ok () w' ∧ Sm c w' q (if (S b).isSome = true then n else n + 1) (sput S b (some a)) ∧ Turns (fun g => g = q) w w' := by
  obtain ⟨D, h1, h2, h3⟩ := h
  obtain ⟨w', hrun, hown, hg⟩ := h1.update Tryz.keyString ht (by unfold maxLen; omega) (key_of hb) (c.R_mk a)
  have hs : Maps.size (D.put (.string b.data.toList) (c.E a)) = if (S b).isSome = true then n else n + 1 := by
    rw [size_put (h1.tidy Tryz.keyString), (h3 b).1, h2]
  refine ⟨w', hrun, ⟨D.put (.string b.data.toList) (c.E a), ?_, hs, fun y => ?_⟩, (Turns.refl _ w).grown hg (fun g e _ => by injection e with e; exact e.symm)⟩
  · obtain ⟨es, clock, hbk, F, _, e⟩ := hown
    refine ⟨es, clock, hbk, F, ?_, e⟩
    rw [← hs, e]
    simp [Maps.size, length_sorted]
  · by_cases e : y = b
    · subst e
      refine ⟨by rw [has_put_same h1.isMap (isKey_str _)]; simp [sput], fun z => by rw [atKey_put_same h1.isMap (isKey_str _)]; simp [sput]⟩
    · refine ⟨by rw [has_put_other (lits_ne e), (h3 y).1]; simp [sput, e], fun z => by rw [atKey_put_other (lits_ne e), (h3 y).2]; simp [sput, e]⟩
set_option maxRecDepth 100000 in
/-- delete(m, b) -/
theorem Sm.drop (h : Sm c w q n S) {t e : TypeId} (ht : Tryz.prog.underlying t = some (.map 9 e)) {b : ByteArray} (hb : b.size ≤ maxLen) (ty : TypeId) :
    ∃ w', (Builtin.delete_ #[t, 9] ty #[.map (some q), .string b]).run Tryz.prog w = .ok (.tuple #[]) w' ∧ Sm c w' q (if (S b).isSome = true then n - 1 else n) (sput S b none) ∧ Turns (fun g => g = q) w w' := by
  obtain ⟨D, h1, h2, h3⟩ := h
  obtain ⟨w', hrun, hown, hg⟩ := h1.drop Tryz.keyString ht (key_of hb) ty
  have hs : Maps.size (D.del (.string b.data.toList)) = if (S b).isSome = true then n - 1 else n := by
    have := size_del (h1.tidy Tryz.keyString) (k := .string b.data.toList)
    rw [(h3 b).1, h2] at this
    cases hS : (S b).isSome with
    | true => rw [hS, if_pos rfl] at this; rw [if_pos rfl]; omega
    | false => rw [hS, if_neg (by decide)] at this; rw [if_neg (by decide)]; omega
  refine ⟨w', hrun, ⟨D.del (.string b.data.toList), ?_, hs, fun y => ?_⟩, (Turns.refl _ w).grown hg.grown (fun g e _ => by injection e with e; exact e.symm)⟩
  · obtain ⟨es, clock, hbk, F, _, e⟩ := hown
    refine ⟨es, clock, hbk, F, ?_, e⟩
    rw [← hs, e]
    simp [Maps.size, length_sorted]
  · by_cases e : y = b
    · subst e
      refine ⟨by rw [has_del_same]; simp [sput], fun z => by rw [atKey_del_same]; simp [sput]⟩
    · refine ⟨by rw [has_del_other (lits_ne e), (h3 y).1]; simp [sput, e], fun z => by rw [atKey_del_other (lits_ne e), (h3 y).2]; simp [sput, e]⟩
theorem Mv.turns {X : Nat → Prop} (h : Mv c w B m n S) (k : Turns X w w') (hx : ∀ q, m = .map (some q) → ¬ X q) : Mv c w' B m n S := by
  rcases h with h | ⟨q, rfl, hB, h⟩
  · exact .inl h
  · exact .inr ⟨q, rfl, hB, h.turns k (hx q rfl)⟩
theorem Mv.base {B' : Nat} (h : Mv c w B m n S) (hB : B' ≤ B) : Mv c w B' m n S := by
  rcases h with h | ⟨q, rfl, hB', h⟩
  · exact .inl h
  · exact .inr ⟨q, rfl, Nat.le_trans hB hB', h⟩
end

/-- meanings -/
def encM : Enc (Int × Int) where
  V a := .agg #[.int .i64 a.1, .int .i64 a.2]
  E a := .agg [.lit (.int .i64 a.1), .lit (.int .i64 a.2)]
  dec := fun
    | .agg cs => match cs.toList with
      | [.int .i64 a, .int .i64 b] => some (a, b)
      | _ => none
    | _ => none
  dv := fun a => rfl
  vd := fun v a h => by
    cases v <;> simp at h
    rename_i cs
    split at h <;> simp at h
    rename_i a b he
    subst h
    have : cs = #[.int .i64 a, .int .i64 b] := Array.toList_inj.1 he
    rw [this]
  inj := fun a b h => by
    simp only [DataW.agg.injEq, List.cons.injEq, DataW.lit.injEq, Lit.int.injEq, true_and, and_true] at h
    exact Prod.ext h.1 h.2
/-- what binds -/
def encB : Enc EM.Bd where
  V a := .agg #[.int .i64 (a.at_ : Int), .string a.nm]
  E a := .agg [.lit (.int .i64 (a.at_ : Int)), .lit (.string a.nm.data.toList)]
  dec := fun
    | .agg cs => match cs.toList with
      | [.int .i64 a, .string b] => if 0 ≤ a then some ⟨a.toNat, b⟩ else none
      | _ => none
    | _ => none
  dv := fun a => by simp
  vd := fun v a h => by
    cases v <;> simp at h
    rename_i cs
    split at h <;> simp at h
    rename_i a b he
    obtain ⟨h0, rfl⟩ := h
    have : cs = #[.int .i64 a, .string b] := Array.toList_inj.1 he
    rw [this]
    simp only [Value.agg.injEq]
    rw [show ((a.toNat : Nat) : Int) = a by omega]
  inj := fun a b h => by
    simp only [DataW.agg.injEq, List.cons.injEq, DataW.lit.injEq, Lit.int.injEq, Lit.string.injEq, true_and, and_true] at h
    cases a; cases b
    simp only [EM.Bd.mk.injEq]
    rename_i i x j y
    have h1 : (i : Int) = j := h.1
    refine ⟨by omega, ?_⟩
    have := h.2
    cases x; cases y; congr; exact Array.toList_inj.1 this
end Go.Proofs.YtbomodendobnkaaGreat
