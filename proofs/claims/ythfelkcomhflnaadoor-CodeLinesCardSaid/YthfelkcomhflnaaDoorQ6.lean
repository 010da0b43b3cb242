/- The plain mathematics of layer 8: data out of a text's tokens, as the reader goes. No dump is read here. -/
import Derived.Test.YthfelkcomhflnaaDoorQ5
namespace Go.Proofs.YthfelkcomhflnaaDoor.RM
open Go.RowKit

/-- some data, one behind the other: each one's kind, number, text and items -/
inductive Dl where
  | nil : Dl
  | cons : Int → Int → List UInt8 → Dl → Dl → Dl
def Dl.len : Dl → Nat
  | .nil => 0
  | .cons _ _ _ _ r => r.len + 1
def Dl.app : Dl → Dl → Dl
  | .nil, e => e
  | .cons k n s is r, e => .cons k n s is (r.app e)
/-- one of them -/
structure Dm where
  k : Int
  n : Int
  s : List UInt8
  is : Dl
def Dl.one (d : Dm) : Dl := .cons d.k d.n d.s d.is .nil
def Dl.snoc (l : Dl) (d : Dm) : Dl := l.app (.one d)
theorem Dl.app_nil : ∀ l : Dl, l.app .nil = l
  | .nil => rfl
  | .cons k n s is r => by rw [Dl.app, Dl.app_nil r]
theorem Dl.app_app : ∀ a b c : Dl, (a.app b).app c = a.app (b.app c)
  | .nil, b, c => rfl
  | .cons k n s is r, b, c => by rw [Dl.app, Dl.app, Dl.app, Dl.app_app r]
theorem Dl.len_app : ∀ a b : Dl, (a.app b).len = a.len + b.len
  | .nil, b => by simp [Dl.app, Dl.len]
  | .cons k n s is r, b => by rw [Dl.app, Dl.len, Dl.len, Dl.len_app r]; omega
theorem Dl.len_one (d : Dm) : (Dl.one d).len = 1 := rfl
theorem Dl.len_snoc (l : Dl) (d : Dm) : (l.snoc d).len = l.len + 1 := by rw [Dl.snoc, Dl.len_app]; rfl

/-- how far it is read: what is left, line, column, and how many tokens there were -/
structure St where
  l : List UInt8
  i : Int
  j : Int
  m : Nat
def St.nx (s : St) : LM.Nx := LM.nx s.l s.i s.j
def St.after (s : St) : St := ⟨s.l.drop s.nx.len, (LM.mv (s.l.take s.nx.len) s.i s.j).1, (LM.mv (s.l.take s.nx.len) s.i s.j).2, s.m + 1⟩
/-- an error with its place; or a datum, and how far it was read -/
abbrev Re := Except (Int × Int × Int) (Dm × St)

def nxt (s : St) (K : LM.Nx → St → Re) : Re := if s.nx.t.e ≠ 0 then .error (s.nx.t.e, s.nx.line, s.nx.col) else K s.nx s.after
/-- the symbol that a mark stands for -/
def mnm (k : Int) : List UInt8 :=
  if k = 5 then [113, 117, 97, 115, 105, 113, 117, 111, 116, 101]
  else if k = 6 then [117, 110, 113, 117, 111, 116, 101]
  else if k = 7 then [117, 110, 113, 117, 111, 116, 101, 45, 115, 112, 108, 105, 99, 105, 110, 103]
  else [113, 117, 111, 116, 101]
def kof (k : Int) : Int := if k = 9 then 1 else if k = 10 then 2 else if k = 11 then 3 else if k = 12 then 4 else 5
def joined (items : Dl) (d : Dm) : Dm := if d.k = 6 ∨ d.k = 7 then ⟨d.k, 0, [], items.app d.is⟩ else ⟨7, 0, [], items.snoc d⟩
def marked (k : Int) (d : Dm) : Dm := ⟨6, 0, [], .cons 5 0 (mnm k) .nil (.one d)⟩
/-- behind a full stop -/
def dot (B : LM.Nx → St → Re) (items : Dl) (s : St) : Re :=
  nxt s fun X s' => match B X s' with
    | .error e => .error e
    | .ok (d, s2) => nxt s2 fun Y s3 => if Y.t.k = 14 then .error (5, Y.line, Y.col) else if Y.t.k ≠ 2 then .error (6, Y.line, Y.col) else .ok (joined items d, s3)
/-- a list or a vector, behind what begins it -/
def row (B : LM.Nx → St → Re) (kind : Int) : Nat → Dl → St → Re
  | 0, _, _ => .error (0, 0, 0)
  | f + 1, items, s => nxt s fun X s' =>
    if X.t.k = 2 then .ok (⟨kind, 0, [], items⟩, s')
    else if X.t.k = 8 ∧ kind = 6 ∧ 0 < items.len then dot B items s'
    else match B X s' with
      | .error e => .error e
      | .ok (d, s2) => row B kind f (items.snoc d) s2
def mark (B : LM.Nx → St → Re) (k : Int) (s : St) : Re :=
  nxt s fun X s' => match B X s' with
    | .error e => .error e
    | .ok (d, s2) => .ok (marked k d, s2)
/-- the datum that a token begins, so many levels ahead of the last one that may be -/
def beg : Nat → LM.Nx → St → Re
  | 0, X, _ => if X.t.k = 14 then .error (5, X.line, X.col) else .error (14, X.line, X.col)
  | v + 1, X, s =>
    if X.t.k = 14 then .error (5, X.line, X.col)
    else if 4000 < s.m then .error (14, X.line, X.col)
    else if X.t.k = 1 then row (beg v) 6 (s.l.length + 1) .nil s
    else if X.t.k = 3 then row (beg v) 8 (s.l.length + 1) .nil s
    else if X.t.k = 4 ∨ X.t.k = 5 ∨ X.t.k = 6 ∨ X.t.k = 7 then mark (beg v) X.t.k s
    else if X.t.k = 2 ∨ X.t.k = 8 then .error (6, X.line, X.col)
    else .ok (⟨kof X.t.k, X.t.n, X.t.s, .nil⟩, s)
def one (s : St) : Re := nxt s fun X s' => beg 64 X s'
/-- all data of a text -/
def all : Nat → Dl → St → Except (Int × Int × Int) Dl
  | 0, _, _ => .error (0, 0, 0)
  | f + 1, data, s =>
    let s0 : St := ⟨s.l, s.i, s.j, 0⟩
    if s0.nx.t.e ≠ 0 then .error (s0.nx.t.e, s0.nx.line, s0.nx.col)
    else if s0.nx.t.k = 14 then .ok data
    else match beg 64 s0.nx s0.after with
      | .error e => .error e
      | .ok (d, s2) => all f (data.snoc d) s2
def start (l : List UInt8) : St := ⟨l, 1, 1, 0⟩

/-! ### what is left grows shorter -/
theorem nxt_ok {s : St} {K : LM.Nx → St → Re} {r : Dm × St} (h : nxt s K = .ok r) : s.nx.t.e = 0 ∧ K s.nx s.after = .ok r := by
  unfold nxt at h
  split at h
  · cases h
  · rename_i he; exact ⟨by simpa using he, h⟩
theorem nxt_go {s : St} (K : LM.Nx → St → Re) (h : s.nx.t.e = 0) : nxt s K = K s.nx s.after := by
  unfold nxt; rw [if_neg (by simp [h])]
theorem after_le (s : St) : s.after.l.length ≤ s.l.length := by
  show (s.l.drop s.nx.len).length ≤ _
  rw [List.length_drop]; omega
theorem after_lt {s : St} (he : s.nx.t.e = 0) (hk : s.nx.t.k ≠ 14) : s.after.l.length + 1 ≤ s.l.length := by
  show (s.l.drop s.nx.len).length + 1 ≤ _
  rw [List.length_drop]
  rcases LM.nx_end s.l s.i s.j he with h | ⟨-, h1, h2, h3⟩
  · exact absurd h.1 hk
  · have e : s.nx.len = (LM.nx s.l s.i s.j).len := rfl
    omega
def Le (B : LM.Nx → St → Re) : Prop := ∀ X s d s', B X s = .ok (d, s') → s'.l.length ≤ s.l.length
theorem dot_le {B : LM.Nx → St → Re} (hB : Le B) {items : Dl} {s : St} {d : Dm} {s' : St} (h : dot B items s = .ok (d, s')) : s'.l.length ≤ s.l.length := by
  unfold dot at h
  obtain ⟨-, h⟩ := nxt_ok h
  split at h
  · cases h
  · rename_i d2 s2 hb
    have h1 := hB _ _ _ _ hb
    obtain ⟨-, h⟩ := nxt_ok h
    split at h
    · cases h
    · split at h
      · cases h
      · injection h with h; injection h with _ h; subst h
        have := after_le s2; have := after_le s; omega
theorem row_le {B : LM.Nx → St → Re} (hB : Le B) (kind : Int) : ∀ (f : Nat) (items : Dl) (s : St) (d : Dm) (s' : St), row B kind f items s = .ok (d, s') → s'.l.length ≤ s.l.length
  | 0, _, _, _, _, h => by unfold row at h; cases h
  | f + 1, items, s, d, s', h => by
    unfold row at h
    obtain ⟨-, h⟩ := nxt_ok h
    have h0 := after_le s
    split at h
    · injection h with h; injection h with _ h; subst h; exact h0
    · split at h
      · have := dot_le hB h; omega
      · split at h
        · cases h
        · rename_i d2 s2 hb
          have h1 := hB _ _ _ _ hb
          have := row_le hB kind f _ _ _ _ h
          omega
theorem mark_le {B : LM.Nx → St → Re} (hB : Le B) {k : Int} {s : St} {d : Dm} {s' : St} (h : mark B k s = .ok (d, s')) : s'.l.length ≤ s.l.length := by
  unfold mark at h
  obtain ⟨-, h⟩ := nxt_ok h
  split at h
  · cases h
  · rename_i d2 s2 hb
    have h1 := hB _ _ _ _ hb
    injection h with h; injection h with _ h; subst h
    have := after_le s; omega
theorem beg_le : ∀ v, Le (beg v)
  | 0, X, s, d, s', h => by unfold beg at h; split at h <;> cases h
  | v + 1, X, s, d, s', h => by
    unfold beg at h
    split at h
    · cases h
    split at h
    · cases h
    split at h
    · exact row_le (beg_le v) _ _ _ _ _ _ h
    split at h
    · exact row_le (beg_le v) _ _ _ _ _ _ h
    split at h
    · exact mark_le (beg_le v) h
    split at h
    · cases h
    · injection h with h; injection h with _ h; subst h; exact Nat.le_refl _
theorem beg_end (v : Nat) {X : LM.Nx} {s : St} {r : Dm × St} (h : beg v X s = .ok r) : X.t.k ≠ 14 := by
  intro hk
  cases v with
  | zero => unfold beg at h; rw [if_pos hk] at h; cases h
  | succ v => unfold beg at h; rw [if_pos hk] at h; cases h

/-! ### two readers, side by side: the second one's text goes on behind the first one's; it may be further within, and have met more tokens -/
section
variable (z : List UInt8) (δ : Nat) (P : Prop)
def Sm (s t : St) : Prop := t.l = s.l ++ z ∧ t.m = s.m + δ
/-- the second comes to the same; or to too many, where P allows -/
def Out (r : Dm × St) (q : Re) : Prop := (∃ t', q = .ok (r.1, t') ∧ Sm z δ r.2 t') ∨ (P ∧ ∃ i j, q = .error (14, i, j))
variable {z δ P}
theorem Sm.nx {s t : St} (h : Sm z δ s t) (hz : LM.brk z) (he : s.nx.t.e = 0) (hk : s.nx.t.k ≠ 14) : t.nx.t = s.nx.t ∧ Sm z δ s.after t.after := by
  have h1 : LM.nx (s.l ++ z) s.i s.j = LM.nx s.l s.i s.j := by
    have := LM.nx_loc s.l z s.l.length s.i s.j he hk (by
      rcases LM.nx_end s.l s.i s.j he with h | h
      · exact absurd h.1 hk
      · exact h.2.2.2) (Nat.le_refl _) hz
    rwa [List.take_length] at this
  have h2 : s.nx.len ≤ s.l.length := by
    rcases LM.nx_end s.l s.i s.j he with h | h
    · exact absurd h.1 hk
    · exact h.2.2.2
  have e1 : t.nx.t = s.nx.t := by
    show (LM.nx t.l t.i t.j).t = (LM.nx s.l s.i s.j).t
    rw [h.1, (LM.nx_any (s.l ++ z) t.i t.j s.i s.j).1, h1]
  have e2 : t.nx.len = s.nx.len := by
    show (LM.nx t.l t.i t.j).len = (LM.nx s.l s.i s.j).len
    rw [h.1, (LM.nx_any (s.l ++ z) t.i t.j s.i s.j).2, h1]
  refine ⟨e1, ?_, ?_⟩
  · show t.l.drop t.nx.len = s.l.drop s.nx.len ++ z
    rw [e2, h.1, List.drop_append_of_le_length h2]
  · show t.m + 1 = s.m + 1 + δ
    have := h.2; omega
/-- what the two readers' functions owe one another -/
def Sim (z : List UInt8) (δ : Nat) (P : Prop) (B C : LM.Nx → St → Re) : Prop := ∀ X Y s t r, Y.t = X.t → Sm z δ s t → B X s = .ok r → Out z δ P r (C Y t)
theorem nxt_sim {s t : St} {K L : LM.Nx → St → Re} {r : Dm × St} (hz : LM.brk z) (h : Sm z δ s t) (hk : ∀ X s r, K X s = .ok r → X.t.k ≠ 14) (hKL : ∀ X Y s t r, Y.t = X.t → Sm z δ s t → K X s = .ok r → Out z δ P r (L Y t)) (hr : nxt s K = .ok r) : Out z δ P r (nxt t L) := by
  obtain ⟨he, hK⟩ := nxt_ok hr
  obtain ⟨h1, h2⟩ := h.nx hz he (hk _ _ _ hK)
  rw [nxt_go L (by rw [h1]; exact he)]
  exact hKL _ _ _ _ _ h1 h2 hK
theorem dot_sim {B C : LM.Nx → St → Re} (hz : LM.brk z) (hB : Sim z δ P B C) (h14 : ∀ X s r, B X s = .ok r → X.t.k ≠ 14) {items : Dl} {s t : St} {r : Dm × St} (h : Sm z δ s t) (hr : dot B items s = .ok r) : Out z δ P r (dot C items t) := by
  unfold dot at hr ⊢
  refine nxt_sim hz h ?_ ?_ hr
  · intro X s r h
    split at h
    · cases h
    · rename_i hb; exact h14 _ _ _ hb
  · intro X Y s t r hY h hr
    split at hr
    · cases hr
    · rename_i d2 s2 hb
      rcases hB X Y s t _ hY h hb with ⟨t2, hc, h2⟩ | ⟨hP, i, j, hc⟩
      · rw [hc]
        refine nxt_sim hz h2 ?_ ?_ hr
        · intro X s r h
          split at h
          · cases h
          · assumption
        · intro X Y s t r hY h hr
          rw [hY]
          split at hr
          · cases hr
          · rename_i n14
            split at hr
            · cases hr
            · rename_i n2
              rw [if_neg n14, if_neg n2]
              injection hr with hr; subst hr
              exact .inl ⟨_, rfl, h⟩
      · rw [hc]; exact .inr ⟨hP, i, j, rfl⟩
theorem row_sim {B C : LM.Nx → St → Re} (hz : LM.brk z) (hB : Sim z δ P B C) (h14 : ∀ X s r, B X s = .ok r → X.t.k ≠ 14) (hBl : Le B) (kind : Int) : ∀ (f g : Nat) (items : Dl) (s t : St) (r : Dm × St), t.l.length < g → Sm z δ s t → row B kind f items s = .ok r → Out z δ P r (row C kind g items t)
  | 0, _, _, _, _, _, _, _, h => by unfold row at h; cases h
  | f + 1, g, items, s, t, r, hg, h, hr => by
    obtain ⟨g, rfl⟩ : ∃ g', g = g' + 1 := ⟨g - 1, by omega⟩
    unfold row at hr ⊢
    have hl : t.l.length = s.l.length + z.length := by rw [h.1, List.length_append]
    obtain ⟨he, hr⟩ := nxt_ok hr
    have hk : s.nx.t.k ≠ 14 := by
      intro hk
      rw [if_neg (by omega), if_neg (by omega)] at hr
      split at hr
      · cases hr
      · rename_i hb; exact h14 _ _ _ hb hk
    obtain ⟨h1, h2⟩ := h.nx hz he hk
    rw [nxt_go _ (by rw [h1]; exact he), h1]
    have ha := after_lt he hk
    split at hr
    · rename_i hk2
      rw [if_pos hk2]
      injection hr with hr; subst hr
      exact .inl ⟨_, rfl, h2⟩
    · rename_i n2
      rw [if_neg n2]
      split at hr
      · rename_i h8
        rw [if_pos h8]
        exact dot_sim hz hB h14 h2 hr
      · rename_i n8
        rw [if_neg n8]
        split at hr
        · cases hr
        · rename_i d2 s2 hb
          have hle := hBl _ _ _ _ hb
          rcases hB _ t.nx _ _ _ h1 h2 hb with ⟨t2, hc, h3⟩ | ⟨hP, i, j, hc⟩
          · rw [hc]
            refine row_sim hz hB h14 hBl kind f g _ _ _ _ ?_ h3 hr
            rw [h3.1]; show (s2.l ++ z).length < g; rw [List.length_append]; omega
          · rw [hc]; exact .inr ⟨hP, i, j, rfl⟩
theorem mark_sim {B C : LM.Nx → St → Re} (hz : LM.brk z) (hB : Sim z δ P B C) (h14 : ∀ X s r, B X s = .ok r → X.t.k ≠ 14) {k : Int} {s t : St} {r : Dm × St} (h : Sm z δ s t) (hr : mark B k s = .ok r) : Out z δ P r (mark C k t) := by
  unfold mark at hr ⊢
  refine nxt_sim hz h ?_ ?_ hr
  · intro X s r h
    split at h
    · cases h
    · rename_i hb; exact h14 _ _ _ hb
  · intro X Y s t r hY h hr
    split at hr
    · cases hr
    · rename_i d2 s2 hb
      injection hr with hr; subst hr
      rcases hB X Y s t _ hY h hb with ⟨t2, hc, h2⟩ | ⟨hP, i, j, hc⟩
      · rw [hc]; exact .inl ⟨_, rfl, h2⟩
      · rw [hc]; exact .inr ⟨hP, i, j, rfl⟩
theorem beg_sim (hz : LM.brk z) : ∀ (v u : Nat), u ≤ v → ((u < v ∨ 0 < δ) → P) → Sim z δ P (beg v) (beg u)
  | 0, u, _, _, X, Y, s, t, r, hY, h, hr => by unfold beg at hr; split at hr <;> cases hr
  | v + 1, 0, hu, hP, X, Y, s, t, r, hY, h, hr => by
    have hk := beg_end _ hr
    unfold beg
    rw [hY, if_neg hk]
    exact .inr ⟨hP (.inl (by omega)), _, _, rfl⟩
  | v + 1, u + 1, hu, hP, X, Y, s, t, r, hY, h, hr => by
    have hk := beg_end _ hr
    have ih := beg_sim hz v u (by omega) (fun h => hP (h.imp (by omega) id))
    unfold beg at hr ⊢
    rw [hY, if_neg hk]
    rw [if_neg hk] at hr
    split at hr
    · cases hr
    rename_i hm
    by_cases hm' : 4000 < t.m
    · rw [if_pos hm']
      exact .inr ⟨hP (.inr (by have := h.2; omega)), _, _, rfl⟩
    rw [if_neg hm']
    have hl : t.l.length = s.l.length + z.length := by rw [h.1, List.length_append]
    split at hr
    · rename_i h1
      rw [if_pos h1]
      exact row_sim hz ih (fun _ _ _ => beg_end v) (beg_le v) _ _ _ _ _ _ _ (by omega) h hr
    rename_i h1; rw [if_neg h1]
    split at hr
    · rename_i h1
      rw [if_pos h1]
      exact row_sim hz ih (fun _ _ _ => beg_end v) (beg_le v) _ _ _ _ _ _ _ (by omega) h hr
    rename_i h1; rw [if_neg h1]
    split at hr
    · rename_i h1
      rw [if_pos h1]
      exact mark_sim hz ih (fun _ _ _ => beg_end v) h hr
    rename_i h1; rw [if_neg h1]
    split at hr
    · cases hr
    · rename_i h1; rw [if_neg h1]
      injection hr with hr; subst hr
      exact .inl ⟨_, rfl, h⟩
end
end Go.Proofs.YthfelkcomhflnaaDoor.RM
