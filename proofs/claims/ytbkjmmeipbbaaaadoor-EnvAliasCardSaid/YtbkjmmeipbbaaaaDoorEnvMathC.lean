/- The plain mathematics of the law EnvAlias. No dump is read here. -/
import Derived.Test.YtbkjmmeipbbaaaaDoorEnvMathB
namespace Go.Proofs.YtbkjmmeipbbaaaaDoor.EM
open Go.RowKit

section
variable {T : Tb} {x : ByteArray} {a : Int}
/-- no place bears a fresh name -/
theorem Ok.nowhere (h : Ok T) {s : ByteArray} (hs : sy s = false) (hA : T.A s = none) (b : Nat) : nr T.P s b = 0 := nr_none (fun p hp e => by
  rcases h.pn p hp with q | q
  · rw [e, hs] at q; cases q
  · rw [e, hA] at q; cases q)
theorem ae_of (hn : T.na < 65536) (hc : ck T a x = 0) : ae T a x = 0 := by unfold ae; rw [hc, if_neg (by decide), if_neg (by omega)]
theorem ali_of (hn : T.na < 65536) (hc : ck T a x = 0) : ali T a x = { T with A := aset T.A (nam T x) (bs T a.toNat x), na := T.na + 1 } := by unfold ali; rw [if_pos (ae_of hn hc)]
end

/-- what the law EnvAlias asks, of a table that is right, where the name can be looked up -/
structure Als (T : Tb) (a : Int) (x : ByteArray) (T1 : Tb) (s : ByteArray) : Prop where
  ok : Ok T
  c : ck T a x = 0
  t1 : T1 = { T with A := aset T.A s (bs T a.toNat x), na := T.na + 1 }
  s : s = nam T x
theorem als_of {T : Tb} {a : Int} {x : ByteArray} (h : Ok T) (hn : T.na < 65536) (hc : ck T a x = 0) : Als T a x (ali T a x) (nam T x) := ⟨h, hc, ali_of hn hc, rfl⟩
section
variable {T T1 : Tb} {a b : Int} {x s : ByteArray}
theorem Als.sys (h : Als T a x T1 s) : sy s = false := by rw [h.s]; exact call_not _
theorem Als.none_ (h : Als T a x T1 s) : T.A s = none := by rw [h.s]; exact h.ok.fresh (h.ok.st_sy (ck_zero h.c).2.2)
theorem Als.ne (h : Als T a x T1 s) : ¬ s = x := fun e => by
  obtain ⟨_, _, hk⟩ := ck_zero h.c
  rcases kd_cases hk with ⟨h1, _⟩ | ⟨_, h1, _⟩
  · rw [← e, h.sys] at h1; cases h1
  · rw [← e, h.none_] at h1; cases h1
theorem Als.As (h : Als T a x T1 s) : T1.A s = some (bs T a.toNat x) := by rw [h.t1]; show (if s = s then _ else _) = _; rw [if_pos rfl]
theorem Als.Ay (h : Als T a x T1 s) {y : ByteArray} (hy : ¬ y = s) : T1.A y = T.A y := by rw [h.t1]; show (if y = s then _ else _) = _; rw [if_neg hy]
theorem Als.P (h : Als T a x T1 s) : T1.P = T.P := by rw [h.t1]
theorem Als.tp (h : Als T a x T1 s) : T1.tp = T.tp := by rw [h.t1]
theorem Als.kds (h : Als T a x T1 s) : kd T1 s = 2 := by
  unfold kd
  rw [h.sys, if_neg (by decide), h.As]
  rfl
theorem Als.kdx (h : Als T a x T1 s) : kd T1 x = kd T x := by
  unfold kd
  rw [h.Ay (fun e => h.ne e.symm)]
theorem Als.cx (h : Als T a x T1 s) : ck T1 a x = 0 := by
  have := h.c
  unfold ck at this ⊢
  rw [h.P, h.kdx]
  exact this
theorem Als.cs (h : Als T a x T1 s) : ck T1 b s = 0 ↔ (0 ≤ b ∧ b ≤ T.P.length) := by
  unfold ck
  rw [h.P, h.kds]
  split
  · constructor
    · intro hh; omega
    · intro hh; omega
  · rw [if_neg (by decide)]
    constructor
    · intro _; omega
    · intro _; rfl
theorem Als.mean (h : Als T a x T1 s) (d : Bd) : mean T1 d = mean T d := by unfold EM.mean; rw [h.P, h.tp]
theorem Als.bx (h : Als T a x T1 s) : bs T1 a.toNat x = bs T a.toNat x := by unfold bs; rw [h.P, h.Ay (fun e => h.ne e.symm)]
theorem Als.bss (h : Als T a x T1 s) (d : Nat) : bs T1 d s = bs T a.toNat x := by
  show (if nr T1.P s d = 0 then (T1.A s).getD ⟨0, s⟩ else _) = _
  rw [h.P, h.ok.nowhere h.sys h.none_, if_pos rfl, h.As]
  rfl
theorem Als.there (h : Als T a x T1 s) (hb : ck T1 b s = 0) : fm T1 b s = fm T a x := by
  unfold fm
  rw [hb, if_pos rfl, h.c, if_pos rfl, h.bss, h.mean]
theorem Als.same (h : Als T a x T1 s) (hb : ck T1 b s = 0) : sm T1 a x b s = true := by
  unfold sm
  rw [h.cx, hb, h.bx, h.bss]
  simp
theorem Als.st1 (h : Als T a x T1 s) : st T1 s = st T x := by
  show (if kd T1 s = 2 then pre s else _) = _
  rw [h.kds, if_pos rfl]
  conv => lhs; rw [h.s]
  unfold nam
  exact pre_call (h.ok.st_sy (ck_zero h.c).2.2) _
theorem Als.st2 (h : Als T a x T1 s) : st T1 x = st T x := by unfold st; rw [h.kdx]
theorem Als.ok1 (h : Als T a x T1 s) (hn : T.na < 65536) : Ok T1 := by
  have := h.ok.ali a x
  rw [ali_of hn h.c] at this
  rw [h.t1, h.s]; exact this
/-- one place more, that binds the alias -/
theorem Als.xe (h : Als T a x T1 s) (hl : T.P.length < 65536) (k : Int) : xe T1 a s k = if k < 1 ∨ 3 < k then 2 else 0 := by
  have hc : ck T1 a s = 0 := h.cs.2 (by have := ck_zero h.c; exact ⟨this.1, this.2.1⟩)
  unfold EM.xe
  rw [hc, if_neg (by decide), h.P]
  split
  · rfl
  · rw [if_neg (by omega)]
theorem Als.deepP (h : Als T a x T1 s) {k n : Int} : Ups (T.P ++ [⟨a.toNat, s, k, n⟩]) := h.ok.ups.snoc (show a.toNat ≤ T.P.length by have := ck_zero h.c; omega)
theorem Als.nrs (h : Als T a x T1 s) {k n : Int} : nr (T.P ++ [⟨a.toNat, s, k, n⟩]) s (T.P.length + 1) = T.P.length + 1 := by
  rw [nr_step h.deepP s (a := T.P.length + 1) (p := ⟨a.toNat, s, k, n⟩) (by omega) (by simp), if_pos rfl]
theorem Als.nrx (h : Als T a x T1 s) {k n : Int} : nr (T.P ++ [⟨a.toNat, s, k, n⟩]) x (T.P.length + 1) = nr T.P x a.toNat := by
  have hc := ck_zero h.c
  have ha : a.toNat ≤ T.P.length := by omega
  rw [nr_step h.deepP x (a := T.P.length + 1) (p := ⟨a.toNat, s, k, n⟩) (by omega) (by simp), if_neg h.ne]
  exact nr_append h.ok.ups x ha
variable {k n : Int}
/-- the table behind that -/
def deep (T1 : Tb) (a : Nat) (s : ByteArray) (k n : Int) : Tb := { T1 with P := T1.P ++ [⟨a, s, k, n⟩] }
theorem Als.ext (h : Als T a x T1 s) (hl : T.P.length < 65536) (hk : ¬ (k < 1 ∨ 3 < k)) : ext T1 a s k n = deep T1 a.toNat s k n := by
  unfold EM.ext
  rw [h.xe hl, if_neg hk, if_pos rfl]
  rfl
theorem Als.dc (h : Als T a x T1 s) {y : ByteArray} (hy : kd T1 y ≠ 0) : ck (deep T1 a.toNat s k n) ((T.P.length : Int) + 1) y = 0 := by
  have e : kd (deep T1 a.toNat s k n) y = kd T1 y := rfl
  have e2 : (deep T1 a.toNat s k n).P.length = T.P.length + 1 := by show (T1.P ++ _).length = _; rw [h.P]; simp
  unfold ck
  rw [e, e2, if_neg (by omega), if_neg hy]
theorem Als.dbs (h : Als T a x T1 s) : bs (deep T1 a.toNat s k n) (T.P.length + 1) s = ⟨T.P.length + 1, s⟩ := by
  show (if nr (T1.P ++ _) s _ = 0 then _ else (⟨nr (T1.P ++ _) s _, s⟩ : Bd)) = _
  rw [h.P, h.nrs, if_neg (by omega)]
theorem Als.dbx (h : Als T a x T1 s) : bs (deep T1 a.toNat s k n) (T.P.length + 1) x = bs T a.toNat x := by
  show (if nr (T1.P ++ _) x _ = 0 then (T1.A x).getD ⟨0, x⟩ else (⟨nr (T1.P ++ _) x _, x⟩ : Bd)) = _
  rw [h.P, h.nrx, h.Ay (fun e => h.ne e.symm)]
  rfl
theorem Als.dfs (h : Als T a x T1 s) : fm (deep T1 a.toNat s k n) ((T.P.length : Int) + 1) s = (k, n) := by
  unfold fm
  rw [h.dc (by rw [h.kds]; decide), if_pos rfl, show ((T.P.length : Int) + 1).toNat = T.P.length + 1 by omega, h.dbs]
  unfold EM.mean
  rw [if_neg (by show ¬ T.P.length + 1 = 0; omega)]
  show (match (T1.P ++ _)[T.P.length + 1 - 1]? with | some p => (p.k, p.n) | none => (0, 0)) = _
  rw [h.P]
  simp
theorem Als.dfx (h : Als T a x T1 s) : fm (deep T1 a.toNat s k n) ((T.P.length : Int) + 1) x = fm T a x := by
  have hc := ck_zero h.c
  have hb := h.ok.bs_at (x := x) (a := a.toNat) (by omega)
  unfold fm
  rw [h.dc (by rw [h.kdx]; exact hc.2.2), if_pos rfl, h.c, if_pos rfl, show ((T.P.length : Int) + 1).toNat = T.P.length + 1 by omega, h.dbx]
  unfold EM.mean
  have e1 : (deep T1 a.toNat s k n).tp = T.tp := h.tp
  have e2 : (deep T1 a.toNat s k n).P = T.P ++ [⟨a.toNat, s, k, n⟩] := by show T1.P ++ _ = _; rw [h.P]
  rw [e1, e2]
  split
  · rfl
  · rw [List.getElem?_append_left (by omega)]
theorem Als.dsm (h : Als T a x T1 s) : sm (deep T1 a.toNat s k n) ((T.P.length : Int) + 1) s ((T.P.length : Int) + 1) x = false := by
  have hc := ck_zero h.c
  have hb := h.ok.bs_at (x := x) (a := a.toNat) (by omega)
  unfold sm
  apply decide_eq_false
  rintro ⟨-, -, e⟩
  rw [show ((T.P.length : Int) + 1).toNat = T.P.length + 1 by omega, h.dbs, h.dbx] at e
  rw [← e] at hb
  have : T.P.length + 1 ≤ T.P.length := hb
  omega
end
end Go.Proofs.YtbkjmmeipbbaaaaDoor.EM
