/- The plain mathematics of layer 16: which instructions may be, and where it comes to with which stacks. No dump is read here. -/
import Derived.Test.YthfelkcomhflnaaDoorQ9
import Derived.Lib.ItoaLen
namespace Go.Proofs.YthfelkcomhflnaaDoor.CD
open Go.RowKit RM

/-- an instruction -/
structure Ins where
  op : Int
  a : Int
  b : Int
  s : List UInt8
  d : Dm
/-- may it be, among n? -/
def may (n : Nat) (x : Ins) : Bool :=
  if x.op = 1 then TM.quo x.d && decide (x.a = 0) && decide (x.b = 0) && decide (x.s = [])
  else if x.op = 2 ∨ x.op = 4 then decide (0 ≤ x.a ∧ x.a ≤ 200) && decide (0 ≤ x.b ∧ x.b ≤ 23) && decide (x.s = []) && TM.nod x.d
  else if x.op = 3 ∨ x.op = 5 ∨ x.op = 6 then LM.sym x.s && decide (x.a = 0) && decide (x.b = 0) && TM.nod x.d
  else if x.op = 7 ∨ x.op = 8 ∨ x.op = 10 then decide (0 ≤ x.a ∧ x.a < (n : Int)) && decide (x.b = 0) && decide (x.s = []) && TM.nod x.d
  else if x.op = 9 then decide (0 ≤ x.b ∧ x.b ≤ 49 ∧ x.b ≠ 1) && decide (0 ≤ x.a ∧ x.a < (n : Int)) && decide (x.s = []) && TM.nod x.d
  else if x.op = 11 ∨ x.op = 14 then decide (x.a = 0) && decide (x.b = 0) && decide (x.s = []) && TM.nod x.d
  else if x.op = 12 ∨ x.op = 13 then decide (0 ≤ x.a ∧ x.a ≤ 28) && decide (x.b = 0) && decide (x.s = []) && TM.nod x.d
  else false
/-- is it code? -/
def rgt (l : List Ins) : Bool := decide (1 ≤ l.length) && decide (l.length ≤ 8000) && l.all (may l.length)
theorem rgt_at {l : List Ins} (h : rgt l = true) {i : Nat} {x : Ins} (hx : l[i]? = some x) : may l.length x = true := by
  simp only [rgt, Bool.and_eq_true, List.all_eq_true] at h
  exact h.2 x (List.mem_of_getElem? hx)
theorem rgt_len {l : List Ins} (h : rgt l = true) : 1 ≤ l.length ∧ l.length ≤ 8000 := by
  simp only [rgt, Bool.and_eq_true, decide_eq_true_eq] at h
  exact h.1
theorem may_place {n : Nat} {x : Ins} (h : may n x = true) (ho : x.op = 7 ∨ x.op = 8 ∨ x.op = 9 ∨ x.op = 10) : 0 ≤ x.a ∧ x.a < (n : Int) := by
  unfold may at h
  rcases ho with ho | ho | ho | ho <;> simp [ho] at h <;> omega
theorem may_arg {n : Nat} {x : Ins} (h : may n x = true) (ho : x.op = 12 ∨ x.op = 13) : 0 ≤ x.a ∧ x.a ≤ 28 := by
  unfold may at h
  rcases ho with ho | ho <;> simp [ho] at h <;> omega
theorem may_op {n : Nat} {x : Ins} (h : may n x = true) : 1 ≤ x.op ∧ x.op ≤ 14 := by
  unfold may at h
  repeat (first | omega | (split at h; omega))
  simp at h

/-! ### stacks -/
/-- where it goes on from a place, with which stacks; none: it doesn't go well -/
def nexts (p : Nat) (x : Ins) (s : List Int) : Option (List (Nat × List Int)) :=
  if x.op = 7 then some [(x.a.toNat, s), (p + 1, s)]
  else if x.op = 8 then some [(x.a.toNat, s)]
  else if x.op = 9 then some [(x.a.toNat, [0]), (p + 1, s)]
  else if x.op = 10 then some [(x.a.toNat, s), (p + 1, s ++ [0])]
  else if x.op = 11 then some [(p + 1, s.take (s.length - 1) ++ [s.getD (s.length - 1) 0 + 1])]
  else if x.op = 12 then (if 2 ≤ s.length ∧ s.getD (s.length - 1) 0 = x.a + 1 then some [] else none)
  else if x.op = 13 then (if s.length = 1 ∧ s.getD (s.length - 1) 0 = x.a + 1 then some [] else none)
  else if x.op = 14 then (if s.length = 1 ∧ s.getD (s.length - 1) 0 = 0 then some [] else none)
  else some [(p + 1, s)]
/-- may it come to a place with a stack? -/
def fine (n : Nat) (p : Nat) (s : List Int) : Prop := p < n ∧ s.length ≤ 200 ∧ s.getD (s.length - 1) 0 ≤ 29
instance (n p : Nat) (s : List Int) : Decidable (fine n p s) := by unfold fine; infer_instance
inductive Comes (l : List Ins) : Nat → List Int → Prop where
  | start : Comes l 0 [0]
  | on {p q : Nat} {s t : List Int} {x : Ins} {ts : List (Nat × List Int)} : Comes l p s → l[p]? = some x → nexts p x s = some ts → (q, t) ∈ ts → Comes l q t
/-- it goes well -/
structure Well (l : List Ins) : Prop where
  fine : ∀ p s, Comes l p s → fine l.length p s
  one : ∀ p s t, Comes l p s → Comes l p t → s = t
  on : ∀ p s x, Comes l p s → l[p]? = some x → nexts p x s ≠ none
/-- S tells of each place the stack with which it comes there; [] where it doesn't -/
structure Fin (l : List Ins) (S : List (List Int)) : Prop where
  len : S.length = l.length
  zero : S[0]? = some [0]
  come : ∀ p s, S[p]? = some s → s ≠ [] → Comes l p s ∧ fine l.length p s
  on : ∀ p s x, S[p]? = some s → s ≠ [] → l[p]? = some x → ∃ ts, nexts p x s = some ts ∧ ∀ q t, (q, t) ∈ ts → S[q]? = some t
theorem next_ne {p q : Nat} {x : Ins} {s t : List Int} {ts : List (Nat × List Int)} (hs : s ≠ []) (h : nexts p x s = some ts) (hm : (q, t) ∈ ts) : t ≠ [] := by
  unfold nexts at h
  repeat' (split at h)
  all_goals (first
    | (exfalso; revert h; simp; done)
    | (simp only [Option.some.injEq] at h
       subst h
       first
         | (exfalso; revert hm; simp; done)
         | (simp only [List.mem_cons, Prod.mk.injEq, List.not_mem_nil, or_false] at hm; obtain ⟨-, rfl⟩ := hm; (first | exact hs | simp); done)
         | (simp only [List.mem_cons, Prod.mk.injEq, List.not_mem_nil, or_false] at hm; rcases hm with ⟨-, rfl⟩ | ⟨-, rfl⟩ <;> first | exact hs | simp)))
theorem Comes.ne {l : List Ins} {p : Nat} {s : List Int} (h : Comes l p s) : s ≠ [] := by
  induction h with
  | start => simp
  | on h1 h2 h3 h4 ih => exact next_ne ih h3 h4
theorem next_nn {p q : Nat} {x : Ins} {s t : List Int} {ts : List (Nat × List Int)} (hs : ∀ y ∈ s, 0 ≤ y) (h : nexts p x s = some ts) (hm : (q, t) ∈ ts) : ∀ y ∈ t, 0 ≤ y := by
  have hl : 0 ≤ s.getD (s.length - 1) 0 := by
    rw [List.getD_eq_getElem?_getD]
    cases hh : s[s.length - 1]? with
    | none => simp
    | some y => exact hs y (List.mem_of_getElem? hh)
  have h10 : ∀ y ∈ s ++ [0], 0 ≤ y := fun y hy => by
    rcases List.mem_append.1 hy with h | h
    · exact hs y h
    · simp at h; omega
  have h11 : ∀ y ∈ s.take (s.length - 1) ++ [s.getD (s.length - 1) 0 + 1], 0 ≤ y := fun y hy => by
    rcases List.mem_append.1 hy with h | h
    · exact hs y (List.mem_of_mem_take h)
    · rw [List.mem_singleton] at h; omega
  have h9 : ∀ y ∈ [(0 : Int)], 0 ≤ y := fun y hy => by simp at hy; omega
  unfold nexts at h
  repeat' (split at h)
  all_goals (first
    | (exfalso; revert h; simp; done)
    | (simp only [Option.some.injEq] at h
       subst h
       first
         | (exfalso; revert hm; simp; done)
         | (simp only [List.mem_cons, Prod.mk.injEq, List.not_mem_nil, or_false] at hm; obtain ⟨-, rfl⟩ := hm; (first | exact hs | exact h11); done)
         | (simp only [List.mem_cons, Prod.mk.injEq, List.not_mem_nil, or_false] at hm; rcases hm with ⟨-, rfl⟩ | ⟨-, rfl⟩ <;> first | exact hs | exact h9 | exact h10)))
theorem Comes.nn {l : List Ins} {p : Nat} {s : List Int} (h : Comes l p s) : ∀ y ∈ s, 0 ≤ y := by
  induction h with
  | start => simp
  | on h1 h2 h3 h4 ih => exact next_nn ih h3 h4
theorem Fin.all {l : List Ins} {S : List (List Int)} (h : Fin l S) {p : Nat} {s : List Int} (k : Comes l p s) : S[p]? = some s := by
  induction k with
  | start => exact h.zero
  | on h1 h2 h3 h4 ih =>
    obtain ⟨ts, e, H⟩ := h.on _ _ _ ih h1.ne h2
    rw [h3] at e
    injection e with e
    subst e
    exact H _ _ h4
theorem Fin.well {l : List Ins} {S : List (List Int)} (h : Fin l S) : Well l := by
  refine ⟨fun p s k => (h.come p s (h.all k) k.ne).2, fun p s t k k' => ?_, fun p s x k hx => ?_⟩
  · have := h.all k
    rw [h.all k'] at this
    injection this with e
    exact e.symm
  · obtain ⟨ts, e, -⟩ := h.on p s x (h.all k) k.ne hx
    rw [e]; simp
theorem Fin.same {l : List Ins} {S T : List (List Int)} (h : Fin l S) (k : Fin l T) : S = T := by
  apply List.ext_getElem?
  intro p
  by_cases hp : p < l.length
  · obtain ⟨s, hs⟩ : ∃ s, S[p]? = some s := ⟨_, List.getElem?_eq_getElem (by rw [h.len]; exact hp)⟩
    obtain ⟨t, ht⟩ : ∃ t, T[p]? = some t := ⟨_, List.getElem?_eq_getElem (by rw [k.len]; exact hp)⟩
    rw [hs, ht]
    by_cases h1 : s = []
    · by_cases h2 : t = []
      · rw [h1, h2]
      · have := h.all (k.come p t ht h2).1
        rw [hs] at this
        exact this
    · have := k.all (h.come p s hs h1).1
      rw [ht] at this
      exact this.symm
  · rw [List.getElem?_eq_none (by rw [h.len]; omega), List.getElem?_eq_none (by rw [k.len]; omega)]
/-- amid the look: what is known so far, and the places from which it didn't go on yet, those that must still be looked at from place c on the ways K -/
structure Amid (l : List Ins) (S : List (List Int)) (todo : List Nat) (K : List (Nat × List Int)) : Prop where
  len : S.length = l.length
  zero : S[0]? = some [0] ∨ (0, [0]) ∈ K
  come : ∀ p s, S[p]? = some s → s ≠ [] → Comes l p s ∧ fine l.length p s
  tod : ∀ p ∈ todo, ∃ s, S[p]? = some s ∧ s ≠ []
  on : ∀ p s x, S[p]? = some s → s ≠ [] → p ∉ todo → l[p]? = some x → ∃ ts, nexts p x s = some ts ∧ ∀ q t, (q, t) ∈ ts → S[q]? = some t ∨ (q, t) ∈ K
  ways : ∀ q t, (q, t) ∈ K → Comes l q t
theorem Amid.perm {l : List Ins} {S : List (List Int)} {todo : List Nat} {K K' : List (Nat × List Int)} (h : Amid l S todo K) (hk : ∀ x, x ∈ K ↔ x ∈ K') : Amid l S todo K' := by
  refine ⟨h.len, h.zero.imp id (fun a => (hk _).1 a), h.come, h.tod, fun p s x h1 h2 h3 h4 => ?_, fun q t hm => h.ways q t ((hk _).2 hm)⟩
  obtain ⟨ts, e, H⟩ := h.on p s x h1 h2 h3 h4
  exact ⟨ts, e, fun a b hm => (H a b hm).imp id (fun a => (hk _).1 a)⟩
def empties (S : List (List Int)) : Nat := (S.filter (fun s => s.isEmpty)).length
theorem Amid.start {l : List Ins} : Amid l (List.replicate l.length []) [] [(0, [0])] := by
  refine ⟨by simp, .inr (by simp), fun p s h hs => ?_, fun p hp => by simp at hp, fun p s x h hs => ?_, fun q t h => ?_⟩
  · rw [List.getElem?_replicate] at h
    split at h
    · injection h with h; exact absurd h.symm hs
    · cases h
  · rw [List.getElem?_replicate] at h
    split at h
    · injection h with h; exact absurd h.symm hs
    · cases h
  · simp at h
    obtain ⟨rfl, rfl⟩ := h
    exact .start
theorem Amid.fin {l : List Ins} {S : List (List Int)} (h : Amid l S [] []) : Fin l S := by
  refine ⟨h.len, ?_, h.come, fun p s x h1 h2 h3 => ?_⟩
  · rcases h.zero with h | h
    · exact h
    · simp at h
  · obtain ⟨ts, e, H⟩ := h.on p s x h1 h2 (by simp) h3
    refine ⟨ts, e, fun q t hm => ?_⟩
    rcases H q t hm with h | h
    · exact h
    · simp at h
/-- it comes to a place that is known, with the stack that is known -/
theorem Amid.known {l : List Ins} {S : List (List Int)} {todo : List Nat} {K : List (Nat × List Int)} {q : Nat} {t : List Int} (h : Amid l S todo ((q, t) :: K)) (hk : S[q]? = some t) : Amid l S todo K := by
  refine ⟨h.len, ?_, h.come, h.tod, fun p s x h1 h2 h3 h4 => ?_, fun a b hm => h.ways a b (List.mem_cons_of_mem _ hm)⟩
  · rcases h.zero with h0 | h0
    · exact .inl h0
    · rcases List.mem_cons.1 h0 with e | e
      · injection e with e1 e2; subst e1 e2; exact .inl hk
      · exact .inr e
  · obtain ⟨ts, e, H⟩ := h.on p s x h1 h2 h3 h4
    refine ⟨ts, e, fun a b hm => ?_⟩
    rcases H a b hm with h0 | h0
    · exact .inl h0
    · rcases List.mem_cons.1 h0 with e' | e'
      · injection e' with e1 e2; subst e1 e2; exact .inl hk
      · exact .inr e'
/-- it comes to a place for the first time -/
theorem Amid.first {l : List Ins} {S : List (List Int)} {todo todo' : List Nat} {K : List (Nat × List Int)} {q : Nat} {t : List Int} (h : Amid l S todo ((q, t) :: K)) (hk : S[q]? = some []) (hf : fine l.length q t)
    (ht : ∀ p, p ∈ todo' ↔ p ∈ todo ∨ p = q) : Amid l (S.set q t) todo' K := by
  have hlt : q < S.length := by rw [h.len]; exact hf.1
  have hne := (h.ways q t (by simp)).ne
  have hg : ∀ p, (S.set q t)[p]? = if q = p then some t else S[p]? := fun p => by
    rw [List.getElem?_set]
    by_cases e : q = p
    · subst e; rw [if_pos rfl, if_pos hlt, if_pos rfl]
    · rw [if_neg e, if_neg e]
  have hold : ∀ p s, S[p]? = some s → s ≠ [] → (S.set q t)[p]? = some s := fun p s h1 h2 => by
    rw [hg]
    by_cases e : q = p
    · subst e; rw [hk] at h1; injection h1 with h1; exact absurd h1.symm h2
    · rw [if_neg e]; exact h1
  have hnew : (S.set q t)[q]? = some t := by rw [hg, if_pos rfl]
  refine ⟨by rw [List.length_set]; exact h.len, ?_, fun p s h1 h2 => ?_, fun p hp => ?_, fun p s x h1 h2 h3 h4 => ?_, fun a b hm => h.ways a b (List.mem_cons_of_mem _ hm)⟩
  · rcases h.zero with h0 | h0
    · exact .inl (hold _ _ h0 (by simp))
    · rcases List.mem_cons.1 h0 with e | e
      · injection e with e1 e2; subst e1; rw [e2]; exact .inl hnew
      · exact .inr e
  · rw [hg] at h1
    by_cases e : q = p
    · subst e; rw [if_pos rfl] at h1; injection h1 with h1; subst h1
      exact ⟨h.ways q t (by simp), hf⟩
    · rw [if_neg e] at h1; exact h.come p s h1 h2
  · rcases (ht p).1 hp with h1 | rfl
    · obtain ⟨s, h2, h3⟩ := h.tod p h1
      exact ⟨s, hold p s h2 h3, h3⟩
    · exact ⟨t, hnew, hne⟩
  · rw [hg] at h1
    have hpq : q ≠ p := fun e => h3 ((ht p).2 (.inr e.symm))
    rw [if_neg hpq] at h1
    obtain ⟨ts, e, H⟩ := h.on p s x h1 h2 (fun h5 => h3 ((ht p).2 (.inl h5))) h4
    refine ⟨ts, e, fun a b hm => ?_⟩
    rcases H a b hm with h0 | h0
    · have hb : b ≠ [] := next_ne h2 e hm
      exact .inl (hold a b h0 hb)
    · rcases List.mem_cons.1 h0 with e' | e'
      · injection e' with e1 e2; subst e1; rw [e2]; exact .inl hnew
      · exact .inr e'
/-- a place is taken, to go on from it -/
theorem Amid.take_ {l : List Ins} {S : List (List Int)} {todo todo' : List Nat} {p : Nat} {s : List Int} {x : Ins} {ts : List (Nat × List Int)} (h : Amid l S todo []) (hp : p ∈ todo) (hs : S[p]? = some s) (hx : l[p]? = some x)
    (hn : nexts p x s = some ts) (ht : ∀ q, q ∈ todo → q ∈ todo' ∨ q = p) (ht' : ∀ q ∈ todo', q ∈ todo) : Amid l S todo' ts := by
  obtain ⟨s', h1, h2⟩ := h.tod p hp
  rw [hs] at h1
  injection h1 with h1
  subst h1
  have hc := (h.come p s hs h2).1
  refine ⟨h.len, ?_, h.come, fun q hq => h.tod q (ht' q hq), fun q t y h3 h4 h5 h6 => ?_, fun q t hm => .on hc hx hn hm⟩
  · rcases h.zero with h0 | h0
    · exact .inl h0
    · simp at h0
  · by_cases hqp : q = p
    · subst hqp
      rw [hs] at h3; injection h3 with h3; subst h3
      rw [hx] at h6; injection h6 with h6; subst h6
      exact ⟨ts, hn, fun a b hm => .inr hm⟩
    · obtain ⟨us, e, H⟩ := h.on q t y h3 h4 (fun h7 => by rcases ht q h7 with h8 | h8; exact h5 h8; exact hqp h8) h6
      refine ⟨us, e, fun a b hm => ?_⟩
      rcases H a b hm with h0 | h0
      · exact .inl h0
      · simp at h0
theorem Amid.bad_fine {l : List Ins} {S : List (List Int)} {todo : List Nat} {K : List (Nat × List Int)} {q : Nat} {t : List Int} (h : Amid l S todo K) (hm : (q, t) ∈ K) (hf : ¬ fine l.length q t) : ¬ Well l := fun w => hf (w.fine q t (h.ways q t hm))
theorem Amid.bad_other {l : List Ins} {S : List (List Int)} {todo : List Nat} {K : List (Nat × List Int)} {q : Nat} {s t : List Int} (h : Amid l S todo K) (hm : (q, t) ∈ K) (hs : S[q]? = some s) (hn : s ≠ []) (hf : s ≠ t) : ¬ Well l :=
  fun w => hf (w.one q s t (h.come q s hs hn).1 (h.ways q t hm))
theorem Amid.bad_on {l : List Ins} {S : List (List Int)} {todo : List Nat} {p : Nat} {s : List Int} {x : Ins} (h : Amid l S todo []) (hp : p ∈ todo) (hs : S[p]? = some s) (hx : l[p]? = some x) (hn : nexts p x s = none) : ¬ Well l := by
  obtain ⟨s', h1, h2⟩ := h.tod p hp
  rw [hs] at h1
  injection h1 with h1
  subst h1
  exact fun w => w.on p s x (h.come p s hs h2).1 hx hn
theorem empties_set {S : List (List Int)} {q : Nat} {t : List Int} (hk : S[q]? = some []) (ht : t ≠ []) : empties (S.set q t) + 1 = empties S := by
  unfold empties
  induction S generalizing q with
  | nil => simp at hk
  | cons a r ih =>
    cases q with
    | zero =>
      simp only [List.getElem?_cons_zero, Option.some.injEq] at hk
      subst hk
      cases t with
      | nil => exact absurd rfl ht
      | cons b u => simp
    | succ q =>
      simp only [List.getElem?_cons_succ] at hk
      have := ih hk
      rw [List.set_cons_succ]
      cases a with
      | nil => simp; omega
      | cons b u => simpa using this
theorem empties_le (S : List (List Int)) : empties S ≤ S.length := List.length_filter_le _ _
end Go.Proofs.YthfelkcomhflnaaDoor.CD
