/- Package env: what Top leaves in memory; delete as a step. -/
import Derived.Test.YtbkjmmeipbbaaaaDoorEnvAliM
namespace Go.Proofs.YtbkjmmeipbbaaaaDoor
open Go.ChangeShapes Go.WideShapes Go.ChangeAt Go.RowKit

theorem wpList_delete_run {w : World} {ops : Array Oper} {rest : List Oper} {o : Oper} {a : Act} {Q : Exit → Act → World → Prop} (hg : o.guard = none) (m x : Operand) (t k : TypeId) (hop : o.op = Op.call { callee := Callee.builtin Builtin.delete, args := #[m, x], argTypes := #[t, k] }) {v key : Value} (hm : a.eval m = v) (hx : a.eval x = key)
    {R : World → Prop} (hrun : ∀ ty, ∃ w', (Builtin.delete_ #[t, k] ty #[v, key]).run Tryd.prog w = .ok (.tuple #[]) w' ∧ R w')
    (hK : ∀ w', R w' → wpList Tryd.prog ops Q rest (a.put o.dst (.tuple #[])) w') : wpList Tryd.prog ops Q (o :: rest) a w := by
  refine wpList_plain hg fun K' hK' => ?_
  obtain ⟨w', hr, hR⟩ := hrun o.type
  unfold Oper.wp
  simp [execOp, hop, resolve, invoke, builtin, hm, hx, hr, Result.andThen]
  exact hK' _ _ (hK w' hR)

/-- the table T lies at block p, its map of symbols at block q -/
def TwT (w : World) (p q : Nat) (D : Nat → Prop) (T : EM.Tb) : Prop :=
  ∃ v ma nt, Lies w p 63 [.map (some q), v, ma] ∧ OwnPl w v T.P ∧ Sm encM w q nt T.tp ∧ nt ≤ T.nt ∧ Mv encB w 0 ma T.na T.A ∧ (∀ r, ma = .map (some r) → D r ∧ r ≠ q) ∧ D q ∧ (∀ g, v.ownBlock = some g → D g) ∧ D p ∧ ∀ g, D g → g < w.heap.size
section
variable {w w' : World} {p q : Nat} {D X : Nat → Prop} {T : EM.Tb}
theorem TwT.tw (h : TwT w p q D T) : Tw w p D T := by
  obtain ⟨v, ma, nt, h1, h2, h3, h4, h5, h6, h7, h8, h9, h10⟩ := h
  exact ⟨⟨.map (some q), v, ma, nt, h1, h2, .inr ⟨q, rfl, Nat.zero_le _, h3⟩, h4, h5, fun r e => by
    have : q = r := by simpa using e
    subst this
    exact ⟨h7, fun e2 => (h6 q e2).2 rfl⟩, fun r e => (h6 r e).1, h8⟩, h9, h10⟩
theorem TwT.turns (h : TwT w p q D T) (k : Turns X w w') (hx : ∀ g, D g → ¬ X g) : TwT w' p q D T := by
  obtain ⟨v, ma, nt, h1, h2, h3, h4, h5, h6, h7, h8, h9, h10⟩ := h
  exact ⟨v, ma, nt, h1.turns k (hx p h9), own_turns h2 k (fun g hg => hx g (h8 g hg)), h3.turns k (hx q h7), h4, h5.turns k (fun r e => hx r (h6 r e).1), h6, h7, h8, h9, fun g hg => Nat.lt_of_lt_of_le (h10 g hg) k.size⟩
theorem TwT.below (h : TwT w p q D T) (k : Below w.heap.size w w') : TwT w' p q D T := h.turns (Turns.of_below k (fun _ => False)) (fun _ _ h => h)
theorem TwT.cell (h : TwT w p q D T) : w.cell? ⟨p, 0, none⟩ = some (.map (some q)) ∧ p < w.heap.size := by
  obtain ⟨v, ma, nt, h1, _⟩ := h
  exact ⟨h1.cell 0, h1.lt⟩
theorem TwT.put (h : TwT w p q D T) (hn : T.nt ≤ 1000000) {s : ByteArray} (hs : s.size ≤ 1000) {k n : Int} (hk : k ≠ 0) :
    ∃ w', (Instr.mapUpdate 59 (.map (some q)) (.string s) (.agg #[.int .i64 k, .int .i64 n])).run Tryd.prog w = .ok () w' ∧ TwT w' p q D { T with tp := EM.tset T.tp s k n, nt := T.nt + 1 } ∧ Turns (fun g => g = q) w w' := by
  obtain ⟨v, ma, nt, h1, h2, h3, h4, h5, h6, h7, h8, h9, h10⟩ := h
  obtain ⟨w', hr, hS, hT⟩ := h3.put Tryd.underlying59 (by omega) (b := s) (by unfold maxLen; omega) (k, n)
  have e : sput T.tp s (some (k, n)) = EM.tset T.tp s k n := by funext y; unfold sput EM.tset; rw [if_neg hk]
  rw [e] at hS
  refine ⟨w', hr, ⟨v, ma, _, h1.turns hT (fun e => h3.apart h1 e.symm), own_turns h2 hT (fun g hg e => h3.not_row h2 (e ▸ hg)), hS, ?_, h5.turns hT (fun r e e2 => (h6 r e).2 e2), h6, h7, h8, h9, fun g hg => Nat.lt_of_lt_of_le (h10 g hg) hT.size⟩, hT⟩
  show (if (T.tp s).isSome = true then nt else nt + 1) ≤ T.nt + 1
  split <;> omega
theorem TwT.drop (h : TwT w p q D T) {s : ByteArray} (hs : s.size ≤ 1000) {n : Int} (ty : TypeId) :
    ∃ w', (Builtin.delete_ #[59, 9] ty #[.map (some q), .string s]).run Tryd.prog w = .ok (.tuple #[]) w' ∧ TwT w' p q D { T with tp := EM.tset T.tp s 0 n, nt := T.nt + 1 } ∧ Turns (fun g => g = q) w w' := by
  obtain ⟨v, ma, nt, h1, h2, h3, h4, h5, h6, h7, h8, h9, h10⟩ := h
  obtain ⟨w', hr, hS, hT⟩ := h3.drop Tryd.underlying59 (b := s) (by unfold maxLen; omega) ty
  have e : sput T.tp s none = EM.tset T.tp s 0 n := by funext y; unfold sput EM.tset; rw [if_pos rfl]
  rw [e] at hS
  refine ⟨w', hr, ⟨v, ma, _, h1.turns hT (fun e => h3.apart h1 e.symm), own_turns h2 hT (fun g hg e => h3.not_row h2 (e ▸ hg)), hS, ?_, h5.turns hT (fun r e e2 => (h6 r e).2 e2), h6, h7, h8, h9, fun g hg => Nat.lt_of_lt_of_le (h10 g hg) hT.size⟩, hT⟩
  show (if (T.tp s).isSome = true then nt - 1 else nt) ≤ T.nt + 1
  split <;> omega
end
/-- amid Top: there is a map -/
def TopMid (p : Nat) (D : Nat → Prop) (T : EM.Tb) (w wx : World) : Prop := ∃ q D', TwT wx p q D' T ∧ (∀ g, D' g → D g ∨ w.heap.size ≤ g) ∧ Turns D w wx
theorem TopMid.had {p : Nat} {D : Nat → Prop} {T : EM.Tb} {w w2 : World} (hw : Went w w2) {q : Nat} (h : TwT w2 p q D T) : TopMid p D T w w2 := ⟨q, D, h, fun _ hg => .inl hg, Turns.of_below hw D⟩
theorem TopMid.made {p : Nat} {D : Nat → Prop} {T : EM.Tb} {w w2 : World} (hw : Went w w2) {v ma : Value} (h1 : Lies w2 p 63 [.map none, v, ma]) (h2 : OwnPl w2 v T.P) (h3 : ∀ b, T.tp b = none) (h5 : Mv encB w2 0 ma T.na T.A)
    (h6 : ∀ q, ma = .map (some q) → D q) (h8 : ∀ g, v.ownBlock = some g → D g) (h9 : D p) (h10 : ∀ g, D g → g < w.heap.size) :
    TopMid p D T w ((w2.setCell ⟨p, 0, none⟩ (.map (some w2.heap.size))).alloc (.map #[] 0)) := by
  have hsz : w.heap.size ≤ w2.heap.size := hw.size
  have T1 : Turns (fun g => g = p) w2 ((w2.setCell ⟨p, 0, none⟩ (.map (some w2.heap.size))).alloc (.map #[] 0)) := ((Turns.refl (fun g => g = p) w2).setCell (p := ⟨p, 0, none⟩) (fun _ => rfl) _).alloc _
  have hS := Sm.made encM (w2.setCell ⟨p, 0, none⟩ (.map (some w2.heap.size)))
  have hz : (w2.setCell ⟨p, 0, none⟩ (.map (some w2.heap.size))).heap.size = w2.heap.size := by simp
  rw [hz] at hS
  have e1 : T.tp = fun _ => none := funext h3
  refine ⟨w2.heap.size, fun g => D g ∨ g = w2.heap.size, ⟨v, ma, 0, (h1.stored 0 _).alloc _, own_turns h2 T1 (fun g hg e => ?_), by rw [e1]; exact hS, Nat.zero_le _, h5.turns T1 (fun q e e2 => ?_), fun r e => ⟨.inl (h6 r e), fun e2 => ?_⟩, .inr rfl, fun g hg => .inl (h8 g hg), .inl h9, fun g hg => ?_⟩, fun g hg => ?_, (Turns.of_below hw D).then T1 (fun g _ h => h ▸ h9)⟩
  · subst e
    rcases h2.2 with ⟨rfl, _⟩ | ⟨g', cap, cur, rfl, _, hh, _⟩
    · simp [Value.ownBlock] at hg
    · have : g' = g := by simpa [Value.ownBlock] using hg
      subst this
      have h1' := h1
      unfold Lies at h1'
      rw [hh] at h1'
      simp at h1'
  · subst e
    subst e2
    rcases h5 with ⟨e, _⟩ | ⟨q', e, _, hS3⟩
    · simp at e
    · have : q = q' := by simpa using e
      subst this
      exact hS3.apart h1 rfl
  · have := h10 r (h6 r e); omega
  · rcases hg with hg | hg
    · have := h10 g hg; simp; omega
    · subst hg; simp
  · rcases hg with hg | hg
    · exact .inl hg
    · exact .inr (by omega)
end Go.Proofs.YtbkjmmeipbbaaaaDoor
