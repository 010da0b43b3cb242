/- Maps from strings that the call itself has made, or none: what they hold at each key, and how many keys they have. -/
import Derived.Test.YtbkjmmeipbbaaaaDoorMem
import Derived.Test.YtbkjmmeipbbaaaaDoorEnvMath
import Derived.Test.YtbkjmmeipbbaaaaDoorRows
import Derived.Maps.OwnSet
import Derived.StringKeys
namespace Go.Proofs.YtbkjmmeipbbaaaaDoor
open Go.RowKit Go.Maps

theorem Tryd.keyString : Keyed Tryd.prog 9 := string_keyed Tryd.underlying9

/-- how elements of a kind lie and read -/
structure Enc (α : Type) where
  V : α → Value
  E : α → DataW Unit
  dec : Value → Option α
  dv : ∀ a, dec (V a) = some a
  vd : ∀ v a, dec v = some a → v = V a
  inj : ∀ a b, E a = E b → a = b

section
variable {α : Type} {c : Enc α}
def Enc.R (c : Enc α) (v : Value) : Option (DataW Unit × List MemPlace) := (c.dec v).map fun a => (c.E a, [])
theorem Enc.R_mk (c : Enc α) (a : α) : c.R (c.V a) = some (c.E a, []) := by simp [Enc.R, c.dv]
theorem Enc.R_inv {v : Value} {a : α} {ps : List MemPlace} (h : c.R v = some (c.E a, ps)) : v = c.V a := by
  unfold Enc.R at h
  cases hd : c.dec v with
  | none => rw [hd] at h; cases h
  | some b =>
    rw [hd] at h
    simp only [Option.map_some, Option.some.injEq, Prod.mk.injEq] at h
    rw [c.vd v b hd, c.inj b a h.1]

/-- block q is a map of n keys: at the key b it holds S b -/
def Sm (c : Enc α) (w : World) (q n : Nat) (S : ByteArray → Option α) : Prop :=
  ∃ D, w.ownsMap Tryd.prog 9 c.R q n D ∧ Maps.size D = n ∧ ∀ b : ByteArray, Maps.has D (.string b.data.toList) = (S b).isSome ∧ ∀ z, D.atKey (.string b.data.toList) (c.E z) = c.E ((S b).getD z)
/-- m is such a map from block B on, or no map and nothing is held -/
def Mv (c : Enc α) (w : World) (B : Nat) (m : Value) (n : Nat) (S : ByteArray → Option α) : Prop :=
  (m = .map none ∧ n = 0 ∧ ∀ b, S b = none) ∨ ∃ q, m = .map (some q) ∧ B ≤ q ∧ Sm c w q n S

variable {w w' : World} {q n B : Nat} {S : ByteArray → Option α} {m : Value}
theorem Sm.made (c : Enc α) (w : World) : Sm c (w.alloc (.map #[] 0)) w.heap.size 0 (fun _ => none) :=
  ⟨.map [], World.ownsMap_made w _ _ _, rfl, fun _ => ⟨rfl, fun _ => rfl⟩⟩
theorem Sm.lt (h : Sm c w q n S) : q < w.heap.size := by
  obtain ⟨D, h, _⟩ := h
  exact h.lt
theorem Sm.turns {X : Nat → Prop} (h : Sm c w q n S) (k : Turns X w w') (hx : ¬ X q) : Sm c w' q n S := by
  have hlt := h.lt
  obtain ⟨D, ⟨es, clock, hb, r⟩, hD⟩ := h
  exact ⟨D, ⟨es, clock, (k.block q hlt hx).trans hb, r⟩, hD⟩
theorem Sm.apart {g : Nat} {t : TypeId} {cs : List Value} (h : Sm c w q n S) (k : Lies w g t cs) : q ≠ g := by
  intro e
  subst e
  obtain ⟨D, ⟨es, clock, hb, _⟩, _⟩ := h
  unfold Lies at k
  rw [hb] at k
  cases k
theorem Sm.not_row {e : TypeId} {B' sz m : Nat} {v : Value} {cs : List Value} (h : Sm c w q n S) (k : w.ownsRow B' e sz v m cs) : v.ownBlock ≠ some q := by
  intro hj
  rcases k.2 with ⟨rfl, _⟩ | ⟨g', cap, cur, rfl, _, hh, _⟩
  · simp [Value.ownBlock] at hj
  · have : g' = q := by simpa [Value.ownBlock] using hj
    subst this
    obtain ⟨D, ⟨es, clock, hb, _⟩, _⟩ := h
    rw [hb] at hh
    cases hh
theorem key_of {b : ByteArray} (hb : b.size ≤ maxLen) : keyOf Tryd.prog 9 (.string b) = some (.string b.data.toList) := Go.WideMaps.keyOf_string_mk Tryd.underlying9 hb
/-- m[b] -/
theorem Sm.look (h : Sm c w q n S) {t e : TypeId} (ht : Tryd.prog.underlying t = some (.map 9 e)) {z : α} (hz : ∀ w, (zeroValue e).run Tryd.prog w = .ok (c.V z) w) {b : ByteArray} (hb : b.size ≤ maxLen) :
    (Instr.lookup t (.map (some q)) (.string b) false).run Tryd.prog w = .ok (c.V ((S b).getD z)) w := by
  obtain ⟨D, h1, h2, h3⟩ := h
  obtain ⟨v, ps, hrun, hat⟩ := h1.lookup Tryd.keyString ht (hz w) (c.R_mk z) (key_of hb)
  rw [(h3 b).2 z] at hat
  rw [hrun, Enc.R_inv hat]
/-- v, ok := m[b] -/
theorem Sm.look_ok (h : Sm c w q n S) {t e : TypeId} (ht : Tryd.prog.underlying t = some (.map 9 e)) {z : α} (hz : ∀ w, (zeroValue e).run Tryd.prog w = .ok (c.V z) w) {b : ByteArray} (hb : b.size ≤ maxLen) :
    (Instr.lookup t (.map (some q)) (.string b) true).run Tryd.prog w = .ok (.tuple #[c.V ((S b).getD z), .bool (S b).isSome]) w := by
  obtain ⟨D, h1, h2, h3⟩ := h
  obtain ⟨v, ps, hrun, hat⟩ := h1.look_ok Tryd.keyString ht (hz w) (c.R_mk z) (key_of hb)
  rw [(h3 b).2 z] at hat
  rw [hrun, Enc.R_inv hat, (h3 b).1]
theorem Mv.look (h : Mv c w B m n S) {t e : TypeId} (ht : Tryd.prog.underlying t = some (.map 9 e)) {z : α} (hz : ∀ w, (zeroValue e).run Tryd.prog w = .ok (c.V z) w) {b : ByteArray} (hb : b.size ≤ maxLen) :
    (Instr.lookup t m (.string b) false).run Tryd.prog w = .ok (c.V ((S b).getD z)) w := by
  rcases h with ⟨rfl, _, h⟩ | ⟨q, rfl, _, h⟩
  · rw [Maps.look_nil false Tryd.keyString ht (hz w) (key_of hb), h b]; rfl
  · exact h.look ht hz hb
theorem Mv.look_ok (h : Mv c w B m n S) {t e : TypeId} (ht : Tryd.prog.underlying t = some (.map 9 e)) {z : α} (hz : ∀ w, (zeroValue e).run Tryd.prog w = .ok (c.V z) w) {b : ByteArray} (hb : b.size ≤ maxLen) :
    (Instr.lookup t m (.string b) true).run Tryd.prog w = .ok (.tuple #[c.V ((S b).getD z), .bool (S b).isSome]) w := by
  rcases h with ⟨rfl, _, h⟩ | ⟨q, rfl, _, h⟩
  · rw [Maps.look_nil true Tryd.keyString ht (hz w) (key_of hb), h b]; rfl
  · exact h.look_ok ht hz hb
/-- len(m) -/
theorem Mv.len (h : Mv c w B m n S) {t e : TypeId} (ht : Tryd.prog.underlying t = some (.map 9 e)) (ty : TypeId) :
    (Builtin.len_ #[t] ty #[m]).run Tryd.prog w = .ok (.int .i64 n) w := by
  rcases h with ⟨rfl, rfl, h⟩ | ⟨q, rfl, _, D, h1, h2, h3⟩
  · rw [Maps.len_nil ht ty]; rfl
  · rw [h1.len ht ty, h2]
theorem lits_ne {a b : ByteArray} (h : a ≠ b) : Lit.string a.data.toList ≠ Lit.string b.data.toList := fun e => h (by
  injection e with e
  cases a; cases b; congr; exact Array.toList_inj.1 e)
def sput (S : ByteArray → Option α) (b : ByteArray) (v : Option α) : ByteArray → Option α := fun y => if y = b then v else S y
theorem isKey_str (l : List UInt8) : WideAt.IsKeyLit (.string l) := trivial
set_option maxRecDepth 100000 in
/-- m[b] = a -/
theorem Sm.put (h : Sm c w q n S) {t e : TypeId} (ht : Tryd.prog.underlying t = some (.map 9 e)) (hn : n ≤ 1000000000) {b : ByteArray} (hb : b.size ≤ maxLen) (a : α) :
    ∃ w', (Instr.mapUpdate t (.map (some q)) (.string b) (c.V a)).run Tryd.prog w = .ok () w' ∧ Sm c w' q (if (S b).isSome = true then n else n + 1) (sput S b (some a)) ∧ Turns (fun g => g = q) w w' := by
  obtain ⟨D, h1, h2, h3⟩ := h
  obtain ⟨w', hrun, hown, hg⟩ := h1.update Tryd.keyString ht (by unfold maxLen; omega) (key_of hb) (c.R_mk a)
  have hs : Maps.size (D.put (.string b.data.toList) (c.E a)) = if (S b).isSome = true then n else n + 1 := by
    rw [size_put (h1.tidy Tryd.keyString), (h3 b).1, h2]
  refine ⟨w', hrun, ⟨D.put (.string b.data.toList) (c.E a), ?_, hs, fun y => ?_⟩, (Turns.refl _ w).grown hg (fun g e _ => by injection e with e; exact e.symm)⟩
  · obtain ⟨es, clock, hbk, F, _, e⟩ := hown
    refine ⟨es, clock, hbk, F, ?_, e⟩
    rw [← hs, e]
    simp [Maps.size, length_sorted]
  · by_cases e : y = b
    · subst e
      refine ⟨by rw [has_put_same h1.isMap (isKey_str _)]; simp [sput], fun z => by rw [atKey_put_same h1.isMap (isKey_str _)]; simp [sput]⟩
    · refine ⟨by rw [has_put_other (lits_ne e), (h3 y).1]; simp [sput, e], fun z => by rw [atKey_put_other (lits_ne e), (h3 y).2]; simp [sput, e]⟩
set_option maxRecDepth 100000 in
/-- delete(m, b) -/
theorem Sm.drop (h : Sm c w q n S) {t e : TypeId} (ht : Tryd.prog.underlying t = some (.map 9 e)) {b : ByteArray} (hb : b.size ≤ maxLen) (ty : TypeId) :
    ∃ w', (Builtin.delete_ #[t, 9] ty #[.map (some q), .string b]).run Tryd.prog w = .ok (.tuple #[]) w' ∧ Sm c w' q (if (S b).isSome = true then n - 1 else n) (sput S b none) ∧ Turns (fun g => g = q) w w' := by
  obtain ⟨D, h1, h2, h3⟩ := h
  obtain ⟨w', hrun, hown, hg⟩ := h1.drop Tryd.keyString ht (key_of hb) ty
  have hs : Maps.size (D.del (.string b.data.toList)) = if (S b).isSome = true then n - 1 else n := by
    have := size_del (h1.tidy Tryd.keyString) (k := .string b.data.toList)
    rw [(h3 b).1, h2] at this
    cases hS : (S b).isSome with
    | true => rw [hS, if_pos rfl] at this; rw [if_pos rfl]; omega
    | false => rw [hS, if_neg (by decide)] at this; rw [if_neg (by decide)]; omega
  refine ⟨w', hrun, ⟨D.del (.string b.data.toList), ?_, hs, fun y => ?_⟩, (Turns.refl _ w).grown hg.grown (fun g e _ => by injection e with e; exact e.symm)⟩
  · obtain ⟨es, clock, hbk, F, _, e⟩ := hown
    refine ⟨es, clock, hbk, F, ?_, e⟩
    rw [← hs, e]
    simp [Maps.size, length_sorted]
  · by_cases e : y = b
    · subst e
      refine ⟨by rw [has_del_same]; simp [sput], fun z => by rw [atKey_del_same]; simp [sput]⟩
    · refine ⟨by rw [has_del_other (lits_ne e), (h3 y).1]; simp [sput, e], fun z => by rw [atKey_del_other (lits_ne e), (h3 y).2]; simp [sput, e]⟩
theorem Mv.turns {X : Nat → Prop} (h : Mv c w B m n S) (k : Turns X w w') (hx : ∀ q, m = .map (some q) → ¬ X q) : Mv c w' B m n S := by
  rcases h with h | ⟨q, rfl, hB, h⟩
  · exact .inl h
  · exact .inr ⟨q, rfl, hB, h.turns k (hx q rfl)⟩
theorem Mv.base {B' : Nat} (h : Mv c w B m n S) (hB : B' ≤ B) : Mv c w B' m n S := by
  rcases h with h | ⟨q, rfl, hB', h⟩
  · exact .inl h
  · exact .inr ⟨q, rfl, Nat.le_trans hB hB', h⟩
end

/-- meanings -/
def encM : Enc (Int × Int) where
  V a := .agg #[.int .i64 a.1, .int .i64 a.2]
  E a := .agg [.lit (.int .i64 a.1), .lit (.int .i64 a.2)]
  dec := fun
    | .agg cs => match cs.toList with
      | [.int .i64 a, .int .i64 b] => some (a, b)
      | _ => none
    | _ => none
  dv := fun a => rfl
  vd := fun v a h => by
    cases v <;> simp at h
    rename_i cs
    split at h <;> simp at h
    rename_i a b he
    subst h
    have : cs = #[.int .i64 a, .int .i64 b] := Array.toList_inj.1 he
    rw [this]
  inj := fun a b h => by
    simp only [DataW.agg.injEq, List.cons.injEq, DataW.lit.injEq, Lit.int.injEq, true_and, and_true] at h
    exact Prod.ext h.1 h.2
/-- what binds -/
def encB : Enc EM.Bd where
  V a := .agg #[.int .i64 (a.at_ : Int), .string a.nm]
  E a := .agg [.lit (.int .i64 (a.at_ : Int)), .lit (.string a.nm.data.toList)]
  dec := fun
    | .agg cs => match cs.toList with
      | [.int .i64 a, .string b] => if 0 ≤ a then some ⟨a.toNat, b⟩ else none
      | _ => none
    | _ => none
  dv := fun a => by simp
  vd := fun v a h => by
    cases v <;> simp at h
    rename_i cs
    split at h <;> simp at h
    rename_i a b he
    obtain ⟨h0, rfl⟩ := h
    have : cs = #[.int .i64 a, .string b] := Array.toList_inj.1 he
    rw [this]
    simp only [Value.agg.injEq]
    rw [show ((a.toNat : Nat) : Int) = a by omega]
  inj := fun a b h => by
    simp only [DataW.agg.injEq, List.cons.injEq, DataW.lit.injEq, Lit.int.injEq, Lit.string.injEq, true_and, and_true] at h
    cases a; cases b
    simp only [EM.Bd.mk.injEq]
    rename_i i x j y
    have h1 : (i : Int) = j := h.1
    refine ⟨by omega, ?_⟩
    have := h.2
    cases x; cases y; congr; exact Array.toList_inj.1 this
end Go.Proofs.YtbkjmmeipbbaaaaDoor
