/- Package env: what Alias leaves in memory; len of a map as a step. -/
import Derived.Test.YtbkjmmeipbbaaaaDoorEnvExtB
import Derived.Deep.Cut
import Derived.Deep.CutRange
import Derived.Deep.CutBlock
namespace Go.Proofs.YtbkjmmeipbbaaaaDoor
open Go.ChangeShapes Go.WideShapes Go.ChangeAt Go.RowKit

section
variable {w : World} {ops : Array Oper} {rest : List Oper} {o : Oper} {a : Act} {K : Act → World → Prop} {Q : Exit → Act → World → Prop} {E : Prop}
theorem wp_len_run (m : Operand) (t : TypeId) (hop : o.op = Op.call { callee := Callee.builtin Builtin.len, args := #[m], argTypes := #[t] }) {v : Value} {n : Int} (hm : a.eval m = v) (hrun : ∀ ty, (Builtin.len_ #[t] ty #[v]).run Tryd.prog w = .ok (.int .i64 n) w)
    (hK : K (a.put o.dst (.int .i64 n)) w) : o.wp Tryd.prog a w K Q := by
  unfold Oper.wp
  simp [execOp, hop, resolve, invoke, builtin, hm, hrun o.type, Result.andThen]
  exact hK
theorem wpList_len_run (hg : o.guard = none) (m : Operand) (t : TypeId) (hop : o.op = Op.call { callee := Callee.builtin Builtin.len, args := #[m], argTypes := #[t] }) {v : Value} {n : Int} (hm : a.eval m = v) (hrun : ∀ ty, (Builtin.len_ #[t] ty #[v]).run Tryd.prog w = .ok (.int .i64 n) w)
    (hK : wpList Tryd.prog ops Q rest (a.put o.dst (.int .i64 n)) w) : wpList Tryd.prog ops Q (o :: rest) a w :=
  wpList_plain hg fun _ hK' => wp_len_run m t hop hm hrun (hK' _ _ hK)
theorem step_len_run (hg : o.guard = none) (m : Operand) (t : TypeId) (hop : o.op = Op.call { callee := Callee.builtin Builtin.len, args := #[m], argTypes := #[t] }) {v : Value} {n : Int} (hm : a.eval m = v) (hrun : ∀ ty, (Builtin.len_ #[t] ty #[v]).run Tryd.prog w = .ok (.int .i64 n) w)
    (hK : K (a.put o.dst (.int .i64 n)) w) : if Region.wanted o (yielded ops a.tmps) = true then Oper.wp Tryd.prog o a w K Q else E := by
  rw [if_pos (by simp [Region.wanted, hg])]
  exact wp_len_run m t hop hm hrun hK
end

/-- the table T lies at block p, its map of aliases at block q -/
def TwA (w : World) (p q : Nat) (D : Nat → Prop) (T : EM.Tb) : Prop :=
  ∃ mt v nt, Lies w p 63 [mt, v, .map (some q)] ∧ OwnPl w v T.P ∧ Mv encM w 0 mt nt T.tp ∧ nt ≤ T.nt ∧ Sm encB w q T.na T.A ∧ (∀ r, mt = .map (some r) → D r ∧ r ≠ q) ∧ D q ∧ (∀ g, v.ownBlock = some g → D g) ∧ D p ∧ ∀ g, D g → g < w.heap.size
section
variable {w w' : World} {p q : Nat} {D X : Nat → Prop} {T : EM.Tb}
theorem TwA.tw (h : TwA w p q D T) : Tw w p D T := by
  obtain ⟨mt, v, nt, h1, h2, h3, h4, h5, h6, h7, h8, h9, h10⟩ := h
  exact ⟨⟨mt, v, .map (some q), nt, h1, h2, h3, h4, .inr ⟨q, rfl, Nat.zero_le _, h5⟩, fun r e => ⟨(h6 r e).1, fun e2 => (h6 r e).2 (by simpa using e2.symm)⟩, fun r e => by
    have : q = r := by simpa using e
    exact this ▸ h7, h8⟩, h9, h10⟩
theorem TwA.turns (h : TwA w p q D T) (k : Turns X w w') (hx : ∀ g, D g → ¬ X g) : TwA w' p q D T := by
  obtain ⟨mt, v, nt, h1, h2, h3, h4, h5, h6, h7, h8, h9, h10⟩ := h
  exact ⟨mt, v, nt, h1.turns k (hx p h9), own_turns h2 k (fun g hg => hx g (h8 g hg)), h3.turns k (fun r e => hx r (h6 r e).1), h4, h5.turns k (hx q h7), h6, h7, h8, h9, fun g hg => Nat.lt_of_lt_of_le (h10 g hg) k.size⟩
theorem TwA.below (h : TwA w p q D T) (k : Below w.heap.size w w') : TwA w' p q D T := h.turns (Turns.of_below k (fun _ => False)) (fun _ _ h => h)
theorem TwA.cell (h : TwA w p q D T) : w.cell? ⟨p, 2, none⟩ = some (.map (some q)) ∧ p < w.heap.size := by
  obtain ⟨mt, v, nt, h1, _⟩ := h
  exact ⟨h1.cell 2, h1.lt⟩
theorem TwA.len (h : TwA w p q D T) (ty : TypeId) : (Builtin.len_ #[61] ty #[.map (some q)]).run Tryd.prog w = .ok (.int .i64 (T.na : Nat)) w := by
  obtain ⟨mt, v, nt, h1, h2, h3, h4, h5, _⟩ := h
  exact (show Mv encB w 0 (.map (some q)) T.na T.A from .inr ⟨q, rfl, Nat.zero_le _, h5⟩).len Tryd.underlying61 ty
/-- an alias that was none is written -/
theorem TwA.put (h : TwA w p q D T) (hn : T.na ≤ 1000000) {s : ByteArray} (hs : s.size ≤ 1000) (hA : T.A s = none) (b : EM.Bd) :
    ∃ w', (Instr.mapUpdate 61 (.map (some q)) (.string s) (encB.V b)).run Tryd.prog w = .ok () w' ∧ TwA w' p q D { T with A := EM.aset T.A s b, na := T.na + 1 } ∧ Turns (fun g => g = q) w w' := by
  obtain ⟨mt, v, nt, h1, h2, h3, h4, h5, h6, h7, h8, h9, h10⟩ := h
  obtain ⟨w', hr, hS, hT⟩ := h5.put Tryd.underlying61 (by omega) (b := s) (by unfold maxLen; omega) b
  rw [hA] at hS
  refine ⟨w', hr, ⟨mt, v, nt, h1.turns hT (fun e => h5.apart h1 e.symm), own_turns h2 hT (fun g hg e => h5.not_row h2 (e ▸ hg)), h3.turns hT (fun r e e2 => (h6 r e).2 e2), h4, hS, h6, h7, h8, h9, fun g hg => Nat.lt_of_lt_of_le (h10 g hg) hT.size⟩, hT⟩
end
/-- amid Alias: there is a map -/
def AliMid (p : Nat) (D : Nat → Prop) (T : EM.Tb) (w wx : World) : Prop := ∃ q D', TwA wx p q D' T ∧ (∀ g, D' g → D g ∨ w.heap.size ≤ g) ∧ Turns D w wx
theorem AliMid.had {p : Nat} {D : Nat → Prop} {T : EM.Tb} {w w2 : World} (hw : Went w w2) {q : Nat} (h : TwA w2 p q D T) : AliMid p D T w w2 := ⟨q, D, h, fun _ hg => .inl hg, Turns.of_below hw D⟩
theorem AliMid.made {p : Nat} {D : Nat → Prop} {T : EM.Tb} {w w2 : World} (hw : Went w w2) {mt v : Value} {nt : Nat} (h1 : Lies w2 p 63 [mt, v, .map none]) (h2 : OwnPl w2 v T.P) (h3 : Mv encM w2 0 mt nt T.tp) (h4 : nt ≤ T.nt) (h5 : T.na = 0 ∧ ∀ b, T.A b = none)
    (h6 : ∀ q, mt = .map (some q) → D q) (h8 : ∀ g, v.ownBlock = some g → D g) (h9 : D p) (h10 : ∀ g, D g → g < w.heap.size) :
    AliMid p D T w ((w2.setCell ⟨p, 2, none⟩ (.map (some w2.heap.size))).alloc (.map #[] 0)) := by
  have hsz : w.heap.size ≤ w2.heap.size := hw.size
  have T1 : Turns (fun g => g = p) w2 ((w2.setCell ⟨p, 2, none⟩ (.map (some w2.heap.size))).alloc (.map #[] 0)) := ((Turns.refl (fun g => g = p) w2).setCell (p := ⟨p, 2, none⟩) (fun _ => rfl) _).alloc _
  have hS := Sm.made encB (w2.setCell ⟨p, 2, none⟩ (.map (some w2.heap.size)))
  have hz : (w2.setCell ⟨p, 2, none⟩ (.map (some w2.heap.size))).heap.size = w2.heap.size := by simp
  rw [hz] at hS
  have e1 : T.A = fun _ => none := funext h5.2
  refine ⟨w2.heap.size, fun g => D g ∨ g = w2.heap.size, ⟨mt, v, nt, (h1.stored 2 _).alloc _, own_turns h2 T1 (fun g hg e => ?_), h3.turns T1 (fun q e e2 => ?_), h4, by rw [e1, h5.1]; exact hS, fun r e => ⟨.inl (h6 r e), fun e2 => ?_⟩, .inr rfl, fun g hg => .inl (h8 g hg), .inl h9, fun g hg => ?_⟩, fun g hg => ?_, (Turns.of_below hw D).then T1 (fun g _ h => h ▸ h9)⟩
  · subst e
    rcases h2.2 with ⟨rfl, _⟩ | ⟨g', cap, cur, rfl, _, hh, _⟩
    · simp [Value.ownBlock] at hg
    · have : g' = g := by simpa [Value.ownBlock] using hg
      subst this
      have h1' := h1
      unfold Lies at h1'
      rw [hh] at h1'
      simp at h1'
  · subst e
    subst e2
    rcases h3 with ⟨e, _⟩ | ⟨q', e, _, hS3⟩
    · simp at e
    · have : q = q' := by simpa using e
      subst this
      exact hS3.apart h1 rfl
  · have := h10 r (h6 r e); omega
  · rcases hg with hg | hg
    · have := h10 g hg; simp; omega
    · subst hg; simp
  · rcases hg with hg | hg
    · exact .inl hg
    · exact .inr (by omega)
end Go.Proofs.YtbkjmmeipbbaaaaDoor
