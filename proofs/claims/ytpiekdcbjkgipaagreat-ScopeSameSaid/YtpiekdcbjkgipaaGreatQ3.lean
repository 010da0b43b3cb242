/- The plain mathematics of layer 8: data out of a text's tokens, as the reader goes. No dump is read here. -/
import Derived.Test.YtpiekdcbjkgipaaGreatQ2
import Derived.Test.YtpiekdcbjkgipaaGreatQ1
namespace Go.Proofs.YtpiekdcbjkgipaaGreat.RM
open Go.RowKit

/-- some data, one behind the other: each one's kind, number, text and items -/
inductive Dl where
  | nil : Dl
  | cons : Int → Int → List UInt8 → Dl → Dl → Dl
def Dl.len : Dl → Nat
  | .nil => 0
  | .cons _ _ _ _ r => r.len + 1
def Dl.app : Dl → Dl → Dl
  | .nil, e => e
  | .cons k n s is r, e => .cons k n s is (r.app e)
/-- one of them -/
structure Dm where
  k : Int
  n : Int
  s : List UInt8
  is : Dl
def Dl.one (d : Dm) : Dl := .cons d.k d.n d.s d.is .nil
def Dl.snoc (l : Dl) (d : Dm) : Dl := l.app (.one d)
theorem Dl.app_nil : ∀ l : Dl, l.app .nil = l
  | .nil => rfl
  | .cons k n s is r => by rw [Dl.app, Dl.app_nil r]
theorem Dl.app_app : ∀ a b c : Dl, (a.app b).app c = a.app (b.app c)
  | .nil, b, c => rfl
  | .cons k n s is r, b, c => by rw [Dl.app, Dl.app, Dl.app, Dl.app_app r]
theorem Dl.len_app : ∀ a b : Dl, (a.app b).len = a.len + b.len
  | .nil, b => by simp [Dl.app, Dl.len]
  | .cons k n s is r, b => by rw [Dl.app, Dl.len, Dl.len, Dl.len_app r]; omega
theorem Dl.len_one (d : Dm) : (Dl.one d).len = 1 := rfl
theorem Dl.len_snoc (l : Dl) (d : Dm) : (l.snoc d).len = l.len + 1 := by rw [Dl.snoc, Dl.len_app]; rfl

/-- how far it is read: what is left, line, column, and how many tokens there were -/
structure St where
  l : List UInt8
  i : Int
  j : Int
  m : Nat
def St.nx (s : St) : LM.Nx := LM.nx s.l s.i s.j
def St.after (s : St) : St := ⟨s.l.drop s.nx.len, (LM.mv (s.l.take s.nx.len) s.i s.j).1, (LM.mv (s.l.take s.nx.len) s.i s.j).2, s.m + 1⟩
/-- an error with its place; or a datum, and how far it was read -/
abbrev Re := Except (Int × Int × Int) (Dm × St)

def nxt (s : St) (K : LM.Nx → St → Re) : Re := if s.nx.t.e ≠ 0 then .error (s.nx.t.e, s.nx.line, s.nx.col) else K s.nx s.after
/-- the symbol that a mark stands for -/
def mnm (k : Int) : List UInt8 :=
  if k = 5 then [113, 117, 97, 115, 105, 113, 117, 111, 116, 101]
  else if k = 6 then [117, 110, 113, 117, 111, 116, 101]
  else if k = 7 then [117, 110, 113, 117, 111, 116, 101, 45, 115, 112, 108, 105, 99, 105, 110, 103]
  else [113, 117, 111, 116, 101]
def kof (k : Int) : Int := if k = 9 then 1 else if k = 10 then 2 else if k = 11 then 3 else if k = 12 then 4 else 5
def joined (items : Dl) (d : Dm) : Dm := if d.k = 6 ∨ d.k = 7 then ⟨d.k, 0, [], items.app d.is⟩ else ⟨7, 0, [], items.snoc d⟩
def marked (k : Int) (d : Dm) : Dm := ⟨6, 0, [], .cons 5 0 (mnm k) .nil (.one d)⟩
/-- behind a full stop -/
def dot (B : LM.Nx → St → Re) (items : Dl) (s : St) : Re :=
  nxt s fun X s' => match B X s' with
    | .error e => .error e
    | .ok (d, s2) => nxt s2 fun Y s3 => if Y.t.k = 14 then .error (5, Y.line, Y.col) else if Y.t.k ≠ 2 then .error (6, Y.line, Y.col) else .ok (joined items d, s3)
/-- a list or a vector, behind what begins it -/
def row (B : LM.Nx → St → Re) (kind : Int) : Nat → Dl → St → Re
  | 0, _, _ => .error (0, 0, 0)
  | f + 1, items, s => nxt s fun X s' =>
    if X.t.k = 2 then .ok (⟨kind, 0, [], items⟩, s')
    else if X.t.k = 8 ∧ kind = 6 ∧ 0 < items.len then dot B items s'
    else match B X s' with
      | .error e => .error e
      | .ok (d, s2) => row B kind f (items.snoc d) s2
def mark (B : LM.Nx → St → Re) (k : Int) (s : St) : Re :=
  nxt s fun X s' => match B X s' with
    | .error e => .error e
    | .ok (d, s2) => .ok (marked k d, s2)
/-- the datum that a token begins, so many levels ahead of the last one that may be -/
def beg : Nat → LM.Nx → St → Re
  | 0, X, _ => if X.t.k = 14 then .error (5, X.line, X.col) else .error (14, X.line, X.col)
  | v + 1, X, s =>
    if X.t.k = 14 then .error (5, X.line, X.col)
    else if 4000 < s.m then .error (14, X.line, X.col)
    else if X.t.k = 1 then row (beg v) 6 (s.l.length + 1) .nil s
    else if X.t.k = 3 then row (beg v) 8 (s.l.length + 1) .nil s
    else if X.t.k = 4 ∨ X.t.k = 5 ∨ X.t.k = 6 ∨ X.t.k = 7 then mark (beg v) X.t.k s
    else if X.t.k = 2 ∨ X.t.k = 8 then .error (6, X.line, X.col)
    else .ok (⟨kof X.t.k, X.t.n, X.t.s, .nil⟩, s)
def one (s : St) : Re := nxt s fun X s' => beg 64 X s'
/-- all data of a text -/
def all : Nat → Dl → St → Except (Int × Int × Int) Dl
  | 0, _, _ => .error (0, 0, 0)
  | f + 1, data, s =>
    let s0 : St := ⟨s.l, s.i, s.j, 0⟩
    if s0.nx.t.e ≠ 0 then .error (s0.nx.t.e, s0.nx.line, s0.nx.col)
    else if s0.nx.t.k = 14 then .ok data
    else match beg 64 s0.nx s0.after with
      | .error e => .error e
      | .ok (d, s2) => all f (data.snoc d) s2
def start (l : List UInt8) : St := ⟨l, 1, 1, 0⟩

/-! ### what is left grows shorter -/
theorem nxt_ok {s : St} {K : LM.Nx → St → Re} {r : Dm × St} (h : nxt s K = .ok r) : s.nx.t.e = 0 ∧ K s.nx s.after = .ok r := by
  unfold nxt at h
  split at h
  · cases h
  · rename_i he; exact ⟨by simpa using he, h⟩
theorem nxt_go {s : St} (K : LM.Nx → St → Re) (h : s.nx.t.e = 0) : nxt s K = K s.nx s.after := by
  unfold nxt; rw [if_neg (by simp [h])]
theorem after_le (s : St) : s.after.l.length ≤ s.l.length := by
  show (s.l.drop s.nx.len).length ≤ _
  rw [List.length_drop]; omega
theorem after_lt {s : St} (he : s.nx.t.e = 0) (hk : s.nx.t.k ≠ 14) : s.after.l.length + 1 ≤ s.l.length := by
  show (s.l.drop s.nx.len).length + 1 ≤ _
  rw [List.length_drop]
  rcases LM.nx_end s.l s.i s.j he with h | ⟨-, h1, h2, h3⟩
  · exact absurd h.1 hk
  · have e : s.nx.len = (LM.nx s.l s.i s.j).len := rfl
    omega
def Le (B : LM.Nx → St → Re) : Prop := ∀ X s d s', B X s = .ok (d, s') → s'.l.length ≤ s.l.length
theorem dot_le {B : LM.Nx → St → Re} (hB : Le B) {items : Dl} {s : St} {d : Dm} {s' : St} (h : dot B items s = .ok (d, s')) : s'.l.length ≤ s.l.length := by
  unfold dot at h
  obtain ⟨-, h⟩ := nxt_ok h
  split at h
  · cases h
  · rename_i d2 s2 hb
    have h1 := hB _ _ _ _ hb
    obtain ⟨-, h⟩ := nxt_ok h
    split at h
    · cases h
    · split at h
      · cases h
      · injection h with h; injection h with _ h; subst h
        have := after_le s2; have := after_le s; omega
theorem row_le {B : LM.Nx → St → Re} (hB : Le B) (kind : Int) : ∀ (f : Nat) (items : Dl) (s : St) (d : Dm) (s' : St), row B kind f items s = .ok (d, s') → s'.l.length ≤ s.l.length
  | 0, _, _, _, _, h => by unfold row at h; cases h
  | f + 1, items, s, d, s', h => by
    unfold row at h
    obtain ⟨-, h⟩ := nxt_ok h
    have h0 := after_le s
    split at h
    · injection h with h; injection h with _ h; subst h; exact h0
    · split at h
      · have := dot_le hB h; omega
      · split at h
        · cases h
        · rename_i d2 s2 hb
          have h1 := hB _ _ _ _ hb
          have := row_le hB kind f _ _ _ _ h
          omega
theorem mark_le {B : LM.Nx → St → Re} (hB : Le B) {k : Int} {s : St} {d : Dm} {s' : St} (h : mark B k s = .ok (d, s')) : s'.l.length ≤ s.l.length := by
  unfold mark at h
  obtain ⟨-, h⟩ := nxt_ok h
  split at h
  · cases h
  · rename_i d2 s2 hb
    have h1 := hB _ _ _ _ hb
    injection h with h; injection h with _ h; subst h
    have := after_le s; omega
theorem beg_le : ∀ v, Le (beg v)
  | 0, X, s, d, s', h => by unfold beg at h; split at h <;> cases h
  | v + 1, X, s, d, s', h => by
    unfold beg at h
    split at h
    · cases h
    split at h
    · cases h
    split at h
    · exact row_le (beg_le v) _ _ _ _ _ _ h
    split at h
    · exact row_le (beg_le v) _ _ _ _ _ _ h
    split at h
    · exact mark_le (beg_le v) h
    split at h
    · cases h
    · injection h with h; injection h with _ h; subst h; exact Nat.le_refl _
theorem beg_end (v : Nat) {X : LM.Nx} {s : St} {r : Dm × St} (h : beg v X s = .ok r) : X.t.k ≠ 14 := by
  intro hk
  cases v with
  | zero => unfold beg at h; rw [if_pos hk] at h; cases h
  | succ v => unfold beg at h; rw [if_pos hk] at h; cases h

/-! ### two readers, side by side: the second one's text goes on behind the first one's; it may be further within, and have met more tokens -/
section
variable (z : List UInt8) (δ : Nat) (P : Prop)
def Sm (s t : St) : Prop := t.l = s.l ++ z ∧ t.m = s.m + δ
/-- the second comes to the same; or to too many, where P allows -/
def Out (r : Dm × St) (q : Re) : Prop := (∃ t', q = .ok (r.1, t') ∧ Sm z δ r.2 t') ∨ (P ∧ ∃ i j, q = .error (14, i, j))
variable {z δ P}
theorem Sm.nx {s t : St} (h : Sm z δ s t) (hz : LM.brk z) (he : s.nx.t.e = 0) (hk : s.nx.t.k ≠ 14) : t.nx.t = s.nx.t ∧ Sm z δ s.after t.after := by
  have h1 : LM.nx (s.l ++ z) s.i s.j = LM.nx s.l s.i s.j := by
    have := LM.nx_loc s.l z s.l.length s.i s.j he hk (by
      rcases LM.nx_end s.l s.i s.j he with h | h
      · exact absurd h.1 hk
      · exact h.2.2.2) (Nat.le_refl _) hz
    rwa [List.take_length] at this
  have h2 : s.nx.len ≤ s.l.length := by
    rcases LM.nx_end s.l s.i s.j he with h | h
    · exact absurd h.1 hk
    · exact h.2.2.2
  have e1 : t.nx.t = s.nx.t := by
    show (LM.nx t.l t.i t.j).t = (LM.nx s.l s.i s.j).t
    rw [h.1, (LM.nx_any (s.l ++ z) t.i t.j s.i s.j).1, h1]
  have e2 : t.nx.len = s.nx.len := by
    show (LM.nx t.l t.i t.j).len = (LM.nx s.l s.i s.j).len
    rw [h.1, (LM.nx_any (s.l ++ z) t.i t.j s.i s.j).2, h1]
  refine ⟨e1, ?_, ?_⟩
  · show t.l.drop t.nx.len = s.l.drop s.nx.len ++ z
    rw [e2, h.1, List.drop_append_of_le_length h2]
  · show t.m + 1 = s.m + 1 + δ
    have := h.2; omega
/-- what the two readers' functions owe one another -/
def Sim (z : List UInt8) (δ : Nat) (P : Prop) (B C : LM.Nx → St → Re) : Prop := ∀ X Y s t r, Y.t = X.t → Sm z δ s t → B X s = .ok r → Out z δ P r (C Y t)
theorem nxt_sim {s t : St} {K L : LM.Nx → St → Re} {r : Dm × St} (hz : LM.brk z) (h : Sm z δ s t) (hk : ∀ X s r, K X s = .ok r → X.t.k ≠ 14) (hKL : ∀ X Y s t r, Y.t = X.t → Sm z δ s t → K X s = .ok r → Out z δ P r (L Y t)) (hr : nxt s K = .ok r) : Out z δ P r (nxt t L) := by
  obtain ⟨he, hK⟩ := nxt_ok hr
  obtain ⟨h1, h2⟩ := h.nx hz he (hk _ _ _ hK)
  rw [nxt_go L (by rw [h1]; exact he)]
  exact hKL _ _ _ _ _ h1 h2 hK
theorem dot_sim {B C : LM.Nx → St → Re} (hz : LM.brk z) (hB : Sim z δ P B C) (h14 : ∀ X s r, B X s = .ok r → X.t.k ≠ 14) {items : Dl} {s t : St} {r : Dm × St} (h : Sm z δ s t) (hr : dot B items s = .ok r) : Out z δ P r (dot C items t) := by
  unfold dot at hr ⊢
  refine nxt_sim hz h ?_ ?_ hr
  · intro X s r h
    split at h
    · cases h
    · rename_i hb; exact h14 _ _ _ hb
  · intro X Y s t r hY h hr
    split at hr
    · cases hr
    · rename_i d2 s2 hb
      rcases hB X Y s t _ hY h hb with ⟨t2, hc, h2⟩ | ⟨hP, i, j, hc⟩
      · rw [hc]
        refine nxt_sim hz h2 ?_ ?_ hr
        · intro X s r h
          split at h
          · cases h
          · assumption
        · intro X Y s t r hY h hr
          rw [hY]
          split at hr
          · cases hr
          · rename_i n14
            split at hr
            · cases hr
            · rename_i n2
              rw [if_neg n14, if_neg n2]
              injection hr with hr; subst hr
              exact .inl ⟨_, rfl, h⟩
      · rw [hc]; exact .inr ⟨hP, i, j, rfl⟩
theorem row_sim {B C : LM.Nx → St → Re} (hz : LM.brk z) (hB : Sim z δ P B C) (h14 : ∀ X s r, B X s = .ok r → X.t.k ≠ 14) (hBl : Le B) (kind : Int) : ∀ (f g : Nat) (items : Dl) (s t : St) (r : Dm × St), t.l.length < g → Sm z δ s t → row B kind f items s = .ok r → Out z δ P r (row C kind g items t)
  | 0, _, _, _, _, _, _, _, h => by unfold row at h; cases h
  | f + 1, g, items, s, t, r, hg, h, hr => by
    obtain ⟨g, rfl⟩ : ∃ g', g = g' + 1 := ⟨g - 1, by omega⟩
    unfold row at hr ⊢
    have hl : t.l.length = s.l.length + z.length := by rw [h.1, List.length_append]
    obtain ⟨he, hr⟩ := nxt_ok hr
    have hk : s.nx.t.k ≠ 14 := by
      intro hk
      rw [if_neg (by omega), if_neg (by omega)] at hr
      split at hr
      · cases hr
      · rename_i hb; exact h14 _ _ _ hb hk
    obtain ⟨h1, h2⟩ := h.nx hz he hk
    rw [nxt_go _ (by rw [h1]; exact he), h1]
    have ha := after_lt he hk
    split at hr
    · rename_i hk2
      rw [if_pos hk2]
      injection hr with hr; subst hr
      exact .inl ⟨_, rfl, h2⟩
    · rename_i n2
      rw [if_neg n2]
      split at hr
      · rename_i h8
        rw [if_pos h8]
        exact dot_sim hz hB h14 h2 hr
      · rename_i n8
        rw [if_neg n8]
        split at hr
        · cases hr
        · rename_i d2 s2 hb
          have hle := hBl _ _ _ _ hb
          rcases hB _ t.nx _ _ _ h1 h2 hb with ⟨t2, hc, h3⟩ | ⟨hP, i, j, hc⟩
          · rw [hc]
            refine row_sim hz hB h14 hBl kind f g _ _ _ _ ?_ h3 hr
            rw [h3.1]; show (s2.l ++ z).length < g; rw [List.length_append]; omega
          · rw [hc]; exact .inr ⟨hP, i, j, rfl⟩
theorem mark_sim {B C : LM.Nx → St → Re} (hz : LM.brk z) (hB : Sim z δ P B C) (h14 : ∀ X s r, B X s = .ok r → X.t.k ≠ 14) {k : Int} {s t : St} {r : Dm × St} (h : Sm z δ s t) (hr : mark B k s = .ok r) : Out z δ P r (mark C k t) := by
  unfold mark at hr ⊢
  refine nxt_sim hz h ?_ ?_ hr
  · intro X s r h
    split at h
    · cases h
    · rename_i hb; exact h14 _ _ _ hb
  · intro X Y s t r hY h hr
    split at hr
    · cases hr
    · rename_i d2 s2 hb
      injection hr with hr; subst hr
      rcases hB X Y s t _ hY h hb with ⟨t2, hc, h2⟩ | ⟨hP, i, j, hc⟩
      · rw [hc]; exact .inl ⟨_, rfl, h2⟩
      · rw [hc]; exact .inr ⟨hP, i, j, rfl⟩
theorem beg_sim (hz : LM.brk z) : ∀ (v u : Nat), u ≤ v → ((u < v ∨ 0 < δ) → P) → Sim z δ P (beg v) (beg u)
  | 0, u, _, _, X, Y, s, t, r, hY, h, hr => by unfold beg at hr; split at hr <;> cases hr
  | v + 1, 0, hu, hP, X, Y, s, t, r, hY, h, hr => by
    have hk := beg_end _ hr
    unfold beg
    rw [hY, if_neg hk]
    exact .inr ⟨hP (.inl (by omega)), _, _, rfl⟩
  | v + 1, u + 1, hu, hP, X, Y, s, t, r, hY, h, hr => by
    have hk := beg_end _ hr
    have ih := beg_sim hz v u (by omega) (fun h => hP (h.imp (by omega) id))
    unfold beg at hr ⊢
    rw [hY, if_neg hk]
    rw [if_neg hk] at hr
    split at hr
    · cases hr
    rename_i hm
    by_cases hm' : 4000 < t.m
    · rw [if_pos hm']
      exact .inr ⟨hP (.inr (by have := h.2; omega)), _, _, rfl⟩
    rw [if_neg hm']
    have hl : t.l.length = s.l.length + z.length := by rw [h.1, List.length_append]
    split at hr
    · rename_i h1
      rw [if_pos h1]
      exact row_sim hz ih (fun _ _ _ => beg_end v) (beg_le v) _ _ _ _ _ _ _ (by omega) h hr
    rename_i h1; rw [if_neg h1]
    split at hr
    · rename_i h1
      rw [if_pos h1]
      exact row_sim hz ih (fun _ _ _ => beg_end v) (beg_le v) _ _ _ _ _ _ _ (by omega) h hr
    rename_i h1; rw [if_neg h1]
    split at hr
    · rename_i h1
      rw [if_pos h1]
      exact mark_sim hz ih (fun _ _ _ => beg_end v) h hr
    rename_i h1; rw [if_neg h1]
    split at hr
    · cases hr
    · rename_i h1; rw [if_neg h1]
      injection hr with hr; subst hr
      exact .inl ⟨_, rfl, h⟩
end
end Go.Proofs.YtpiekdcbjkgipaaGreat.RM

/- Data in memory: rows of data within rows, each in a block of its own; how they stay, and append. -/
namespace Go.Proofs.YtpiekdcbjkgipaaGreat
open Go.RowKit

theorem Tryz.infoDatum : (Tryz.prog.info? 25).map (fun i => (i.zero, i.size, i.bytes)) = some (some (.agg #[.int .i64 0, .int .i64 0, .string ⟨#[]⟩, .slice none 0 0]), 4, 56) := by kernel_rfl
/-- a row's cells: each datum's kind, number, text and items, which lie in rows of their own; S says which blocks these rows may lie in -/
def DatAt (w : World) (S : Nat → Prop) : RM.Dl → List Value → Prop
  | .nil, cs => cs = []
  | .cons k n s is r, cs => ∃ v c1 c2, cs = [.int .i64 k, .int .i64 n, .string ⟨s.toArray⟩, v] ++ c2 ∧ w.ownsRow 0 25 4 v is.len c1 ∧ (∀ g, v.ownBlock = some g → S g) ∧ DatAt w S is c1 ∧ DatAt w S r c2
/-- v is the row of these data -/
def Dat (w : World) (S : Nat → Prop) (v : Value) (d : RM.Dl) : Prop := ∃ cs, w.ownsRow 0 25 4 v d.len cs ∧ (∀ g, v.ownBlock = some g → S g) ∧ DatAt w S d cs
/-- v is the row of these data, in blocks of S, and none of the rows within it lies in v's own block -/
def Its (w : World) (S : Nat → Prop) (v : Value) (d : RM.Dl) : Prop := ∃ cs, w.ownsRow 0 25 4 v d.len cs ∧ (∀ g, v.ownBlock = some g → S g) ∧ DatAt w (fun g => S g ∧ v.ownBlock ≠ some g) d cs
section
variable {w w' : World} {S S' X : Nat → Prop} {B : Nat} {v v' : Value}
theorem DatAt.mono (hS : ∀ g, g < w.heap.size → S g → S' g) : ∀ {d : RM.Dl} {cs : List Value}, DatAt w S d cs → DatAt w S' d cs
  | .nil, _, h => h
  | .cons _ _ _ _ _, _, ⟨v, c1, c2, h1, h2, h3, h4, h5⟩ => ⟨v, c1, c2, h1, h2, fun g hg => hS g (World.ownsRow.lt h2 g hg).2 (h3 g hg), DatAt.mono hS h4, DatAt.mono hS h5⟩
theorem DatAt.turns (k : Turns X w w') (hX : ∀ g, g < w.heap.size → S g → ¬ X g) : ∀ {d : RM.Dl} {cs : List Value}, DatAt w S d cs → DatAt w' S d cs
  | .nil, _, h => h
  | .cons _ _ _ _ _, _, ⟨v, c1, c2, h1, h2, h3, h4, h5⟩ => ⟨v, c1, c2, h1, own_turns h2 k (fun g hg => hX g (World.ownsRow.lt h2 g hg).2 (h3 g hg)), h3, DatAt.turns k hX h4, DatAt.turns k hX h5⟩
theorem DatAt.one : ∀ {d : RM.Dl} {cs : List Value}, DatAt w S d cs → ∀ u ∈ cs, u.oneCell' = true
  | .nil, cs, h => by rw [show cs = [] from h]; simp
  | .cons _ _ _ _ _, cs, ⟨v, c1, c2, h1, h2, h3, h4, h5⟩ => by
    intro u hu
    rw [h1] at hu
    have hv : v.oneCell' = true := by
      rcases h2.2 with ⟨rfl, _⟩ | ⟨g, cap, cur, rfl, _⟩ <;> rfl
    rcases List.mem_append.1 hu with hu | hu
    · simp only [List.mem_cons, List.not_mem_nil, or_false] at hu
      rcases hu with rfl | rfl | rfl | rfl <;> first | rfl | exact hv
    · exact DatAt.one h5 u hu
theorem DatAt.app : ∀ {d e : RM.Dl} {cs es : List Value}, DatAt w S d cs → DatAt w S e es → DatAt w S (d.app e) (cs ++ es)
  | .nil, e, cs, es, h, k => by rw [show cs = [] from h]; exact k
  | .cons _ _ _ _ _, e, cs, es, ⟨v, c1, c2, h1, h2, h3, h4, h5⟩, k => ⟨v, c1, c2 ++ es, by rw [h1, List.append_assoc], h2, h3, h4, DatAt.app h5 k⟩
theorem Dat.mono {d : RM.Dl} (h : Dat w S v d) (hS : ∀ g, g < w.heap.size → S g → S' g) : Dat w S' v d := by
  obtain ⟨cs, h1, h2, h3⟩ := h
  exact ⟨cs, h1, fun g hg => hS g (World.ownsRow.lt h1 g hg).2 (h2 g hg), h3.mono hS⟩
theorem Dat.turns {d : RM.Dl} (h : Dat w S v d) (k : Turns X w w') (hX : ∀ g, g < w.heap.size → S g → ¬ X g) : Dat w' S v d := by
  obtain ⟨cs, h1, h2, h3⟩ := h
  exact ⟨cs, own_turns h1 k (fun g hg => hX g (World.ownsRow.lt h1 g hg).2 (h2 g hg)), h2, h3.turns k hX⟩
theorem Dat.below {d : RM.Dl} (h : Dat w S v d) (k : Below w.heap.size w w') : Dat w' S v d := h.turns (Turns.of_below k (fun _ => False)) (fun _ _ _ h => h)
theorem Dat.nil (w : World) (S : Nat → Prop) : Dat w S (.slice none 0 0) .nil := ⟨[], own_none w 0 _ 4, (fun g hg => by cases hg), rfl⟩
theorem Its.nil (w : World) (S : Nat → Prop) : Its w S (.slice none 0 0) .nil := ⟨[], own_none w 0 _ 4, (fun g hg => by cases hg), rfl⟩
theorem Its.turns {d : RM.Dl} (h : Its w S v d) (k : Turns X w w') (hX : ∀ g, g < w.heap.size → S g → ¬ X g) : Its w' S v d := by
  obtain ⟨cs, h1, h2, h3⟩ := h
  exact ⟨cs, own_turns h1 k (fun g hg => hX g (World.ownsRow.lt h1 g hg).2 (h2 g hg)), h2, h3.turns k (fun g hg hs => hX g hg hs.1)⟩
theorem Its.below {d : RM.Dl} (h : Its w S v d) (k : Below w.heap.size w w') : Its w' S v d := h.turns (Turns.of_below k (fun _ => False)) (fun _ _ _ h => h)
theorem Its.mono {d : RM.Dl} (h : Its w S v d) (hS : ∀ g, g < w.heap.size → S g → S' g) : Its w S' v d := by
  obtain ⟨cs, h1, h2, h3⟩ := h
  exact ⟨cs, h1, fun g hg => hS g (World.ownsRow.lt h1 g hg).2 (h2 g hg), h3.mono (fun g hg hs => ⟨hS g hg hs.1, hs.2⟩)⟩
theorem Its.dat {d : RM.Dl} (h : Its w S v d) : Dat w S v d := by
  obtain ⟨cs, h1, h2, h3⟩ := h
  exact ⟨cs, h1, h2, h3.mono (fun g _ hs => hs.1)⟩
theorem Its.lt {d : RM.Dl} (h : Its w S v d) : ∀ g, v.ownBlock = some g → S g ∧ g < w.heap.size := by
  obtain ⟨cs, h1, h2, _⟩ := h
  exact fun g hg => ⟨h2 g hg, (World.ownsRow.lt h1 g hg).2⟩
theorem Its.read {d : RM.Dl} (h : Its w S v d) : ∃ A c, v = .slice A d.len c := by
  obtain ⟨cs, h1, _⟩ := h
  obtain ⟨A, c, e, _⟩ := own_read h1
  exact ⟨A, c, e⟩
theorem Dat.read {d : RM.Dl} (h : Dat w S v d) : ∃ A c, v = .slice A d.len c := by
  obtain ⟨cs, h1, _⟩ := h
  obtain ⟨A, c, e, _⟩ := own_read h1
  exact ⟨A, c, e⟩
/-- behind an append, in a world w2 that has kept what w had: the new row -/
theorem Its.grew {d e : RM.Dl} {cs es : List Value} {x : Value} {w2 : World} (h0 : ∀ g, v.ownBlock = some g → S g ∧ g < w.heap.size) (h' : DatAt w (fun g => S g ∧ v.ownBlock ≠ some g) d cs)
    (k' : DatAt w (fun g => S g ∧ v.ownBlock ≠ some g) e es) (k2 : Turns (fun _ => False) w w2) (hr : w'.ownsRow 0 25 4 x (d.len + e.len) (cs ++ es)) (hg : w2.grownBy w' v.ownBlock) (hat : x.ownBlock = v.ownBlock ∨ x.ownBlock = some w2.heap.size)
    (hS1 : ∀ g, g < w.heap.size → S g → S' g) (hS2 : S' w2.heap.size) : Its w' S' x (d.app e) := by
  have T := Turns.appendedS hg
  have hs := k2.size
  refine ⟨cs ++ es, by rw [RM.Dl.len_app]; exact hr, ?_, DatAt.mono ?_ (DatAt.turns (S := fun g => (S g ∧ v.ownBlock ≠ some g) ∧ g < w.heap.size) T (fun g _ hs => hs.1.2) (DatAt.turns k2 (fun _ _ _ h => h) (DatAt.mono (fun g hg hs => ⟨hs, hg⟩) (h'.app k'))))⟩
  · intro g hg
    rcases hat with e1 | e1
    · rw [e1] at hg; exact hS1 g (h0 g hg).2 (h0 g hg).1
    · rw [e1] at hg; injection hg with hg; subst hg; exact hS2
  · intro g _ hs
    refine ⟨hS1 g hs.2 hs.1.1, ?_⟩
    rcases hat with e1 | e1
    · rw [e1]; exact hs.1.2
    · rw [e1]
      intro hh
      injection hh with hh
      have := hs.2
      omega
/-- one datum's cells -/
theorem DatAt.cell1 {d : RM.Dm} (h : Dat w S v d.is) : DatAt w S (.one d) [.int .i64 d.k, .int .i64 d.n, .string ⟨d.s.toArray⟩, v] := by
  obtain ⟨cs, h1, h2, h3⟩ := h
  exact ⟨v, cs, [], rfl, h1, h2, h3, rfl⟩
end
end Go.Proofs.YtpiekdcbjkgipaaGreat

/- Data in memory, one of a row at a time; what holds of all data that are made of such. -/
namespace Go.Proofs.YtpiekdcbjkgipaaGreat
open Go.ChangeShapes Go.WideShapes Go.ChangeAt Go.RowKit

/-- the datum at a place of a row -/
def RM.Dl.at_ : RM.Dl → Nat → Option RM.Dm
  | .nil, _ => none
  | .cons k n s is _, 0 => some ⟨k, n, s, is⟩
  | .cons _ _ _ _ r, i + 1 => r.at_ i
theorem RM.Dl.at_some : ∀ (d : RM.Dl) (i : Nat), i < d.len → ∃ x, d.at_ i = some x
  | .nil, i, h => by simp [RM.Dl.len] at h
  | .cons k n s is r, 0, h => ⟨⟨k, n, s, is⟩, rfl⟩
  | .cons k n s is r, i + 1, h => RM.Dl.at_some r i (by simp only [RM.Dl.len] at h; omega)
theorem DatAt.at_ {w : World} {S : Nat → Prop} : ∀ {d : RM.Dl} {cs : List Value} {i : Nat} {x : RM.Dm}, DatAt w S d cs → d.at_ i = some x →
    ∃ v, cs[i * 4]? = some (.int .i64 x.k) ∧ cs[i * 4 + 1]? = some (.int .i64 x.n) ∧ cs[i * 4 + 2]? = some (.string ⟨x.s.toArray⟩) ∧ cs[i * 4 + 3]? = some v ∧ Dat w S v x.is
  | .nil, _, _, _, _, hx => by simp [RM.Dl.at_] at hx
  | .cons k n s is r, cs, 0, x, ⟨v, c1, c2, h1, h2, h3, h4, h5⟩, hx => by
    simp only [RM.Dl.at_, Option.some.injEq] at hx
    subst hx
    subst h1
    exact ⟨v, rfl, rfl, rfl, rfl, c1, h2, h3, h4⟩
  | .cons k n s is r, cs, i + 1, x, ⟨v, c1, c2, h1, h2, h3, h4, h5⟩, hx => by
    obtain ⟨v', q0, q1, q2, q3, hd⟩ := DatAt.at_ h5 (show r.at_ i = some x from hx)
    subst h1
    have e : ∀ j, ([Value.int .i64 k, .int .i64 n, .string ⟨s.toArray⟩, v] ++ c2)[(i + 1) * 4 + j]? = c2[i * 4 + j]? := fun j => by
      rw [List.getElem?_append_right (by simp; omega)]
      congr 1
      simp; omega
    exact ⟨v', by rw [← q0]; exact e 0, by rw [← q1]; exact e 1, by rw [← q2]; exact e 2, by rw [← q3]; exact e 3, hd⟩
theorem Dat.at_ {w : World} {S : Nat → Prop} {A : Option Addr} {n c : Nat} {d : RM.Dl} (h : Dat w S (.slice A n c) d) {i : Nat} {x : RM.Dm} (hx : d.at_ i = some x) :
    ∃ g v, A = some ⟨g, 0, none⟩ ∧ g < w.heap.size ∧ w.cell? ⟨g, i * 4, none⟩ = some (.int .i64 x.k) ∧ w.cell? ⟨g, i * 4 + 1, none⟩ = some (.int .i64 x.n) ∧ w.cell? ⟨g, i * 4 + 2, none⟩ = some (.string ⟨x.s.toArray⟩) ∧ w.cell? ⟨g, i * 4 + 3, none⟩ = some v ∧ Dat w S v x.is := by
  obtain ⟨cs, h1, h2, h3⟩ := h
  obtain ⟨v, q0, q1, q2, q3, hd⟩ := h3.at_ hx
  have hl : cs.length = d.len * 4 := h1.1
  have hi : i * 4 + 3 < d.len * 4 := by rw [← hl]; exact (List.getElem?_eq_some_iff.1 q3).1
  obtain ⟨A', c', e, hr⟩ := own_read h1
  injection e with e1 e2 e3
  subst e1
  obtain ⟨g, hg, _, hlt, _⟩ := hr (i * 4) (by omega)
  subst hg
  have at' : ∀ j, j < d.len * 4 → w.cell? ⟨g, j, none⟩ = cs[j]? := fun j hj => by
    obtain ⟨g', hg', _, _, h'⟩ := hr j hj
    cases hg'
    exact h'
  exact ⟨g, v, rfl, hlt, by rw [at' _ (by omega), q0], by rw [at' _ (by omega), q1], by rw [at' _ (by omega), q2], by rw [at' _ (by omega), q3], hd⟩
theorem Dat.len {w : World} {S : Nat → Prop} {v : Value} {d : RM.Dl} (h : Dat w S v d) : d.len ≤ 9223372036854775807 := by
  obtain ⟨cs, h1, _⟩ := h
  rcases h1.2 with ⟨_, hn⟩ | ⟨g, cap, cur, _, _, _, hc, hm, _⟩
  · omega
  · unfold maxLen at hm; omega
theorem Dat.drew {w : World} {S : Nat → Prop} {v : Value} {d : RM.Dl} (h : Dat w S v d) : Dat w.drew S v d := h.turns (Turns.refl (fun _ => False) w).drew (fun _ _ _ h => h)
/-- what holds of all data of a row that is made of such -/
theorem RM.Dl.all_of (P : RM.Dm → Prop) (hP : ∀ k n s is, (∀ i x, RM.Dl.at_ is i = some x → P x) → P ⟨k, n, s, is⟩) : ∀ (d : RM.Dl) (i : Nat) (x : RM.Dm), d.at_ i = some x → P x
  | .nil, i, x, h => by simp [RM.Dl.at_] at h
  | .cons k n s is r, 0, x, h => by
    simp only [RM.Dl.at_, Option.some.injEq] at h
    subst h
    exact hP k n s is (RM.Dl.all_of P hP is)
  | .cons k n s is r, i + 1, x, h => RM.Dl.all_of P hP r i x h
def dtv (x : RM.Dm) (v : Value) : Value := .agg #[.int .i64 x.k, .int .i64 x.n, .string ⟨x.s.toArray⟩, v]

/-- four cells of a block are stored anew -/
def four (w : World) (g : Nat) (x0 x1 x2 x3 : Value) : World := (((w.setCell ⟨g, 0, none⟩ x0).setCell ⟨g, 1, none⟩ x1).setCell ⟨g, 2, none⟩ x2).setCell ⟨g, 3, none⟩ x3
section
variable {w a : World} {g h B : Nat} {t : TypeId} {cs : List Value} {X : Nat → Prop}
theorem four_far (hL : Lies w h t cs) (hne : h ≠ g) (x0 x1 x2 x3 : Value) : Lies (four w g x0 x1 x2 x3) h t cs :=
  (((hL.far (p := ⟨g, 0, none⟩) hne _).far (p := ⟨g, 1, none⟩) hne _).far (p := ⟨g, 2, none⟩) hne _).far (p := ⟨g, 3, none⟩) hne _
theorem four_lies {y0 y1 y2 y3 : Value} (hL : Lies w g t [y0, y1, y2, y3]) (x0 x1 x2 x3 : Value) : Lies (four w g x0 x1 x2 x3) g t [x0, x1, x2, x3] :=
  (((hL.stored 0 x0).stored 1 x1).stored 2 x2).stored 3 x3
theorem four_below (h : Below B a w) (hg : B ≤ g) (x0 x1 x2 x3 : Value) : Below B a (four w g x0 x1 x2 x3) :=
  (((h.setCell (p := ⟨g, 0, none⟩) hg _).setCell (p := ⟨g, 1, none⟩) hg _).setCell (p := ⟨g, 2, none⟩) hg _).setCell (p := ⟨g, 3, none⟩) hg _
theorem four_turns (h : Turns X a w) (hg : a.heap.size ≤ g) (x0 x1 x2 x3 : Value) : Turns X a (four w g x0 x1 x2 x3) :=
  have no : ∀ o, (⟨g, o, none⟩ : Addr).block < a.heap.size → X g := fun o hh => absurd hh (by simp; omega)
  (((h.setCell (p := ⟨g, 0, none⟩) (no 0) _).setCell (p := ⟨g, 1, none⟩) (no 1) _).setCell (p := ⟨g, 2, none⟩) (no 2) _).setCell (p := ⟨g, 3, none⟩) (no 3) _
theorem four_one (w : World) (g : Nat) (x0 x1 x2 x3 : Value) : Turns (fun k => k = g) w (four w g x0 x1 x2 x3) :=
  ((((Turns.refl (fun k => k = g) w).setCell (p := ⟨g, 0, none⟩) (fun _ => rfl) _).setCell (p := ⟨g, 1, none⟩) (fun _ => rfl) _).setCell (p := ⟨g, 2, none⟩) (fun _ => rfl) _).setCell (p := ⟨g, 3, none⟩) (fun _ => rfl) _
end
theorem own_lit4b (w : World) (o : Obj) (t : TypeId) (cs : Array Value) (hs : cs.size = 4 := by rfl) : ((w.alloc o).alloc (.cells cs t)).ownsRow 0 t 4 (.slice (some ⟨w.heap.size + 1, 0, none⟩) 1 1) 1 cs.toList := by
  have := own_one (e := t) (sz := 4) (B := 0) (w.alloc o) cs hs (Nat.zero_le _)
  rwa [show (w.alloc o).heap.size = w.heap.size + 1 by simp] at this
end Go.Proofs.YtpiekdcbjkgipaaGreat
