/- What variables stand for, in memory: bounds that can be read; rows of them that are being made. -/
import Derived.Test.YtbomodendobnkaaGreatQ9
import Derived.Test.YtbomodendobnkaaGreatQ11
namespace Go.Proofs.YtbomodendobnkaaGreat
open Go.ChangeShapes Go.WideShapes Go.ChangeAt Go.RowKit Go.Deep
open MM (Bl Bm)

/-- the blocks of D are in w' as they were in w -/
structure Kp (D : Nat → Prop) (w w' : World) : Prop where
  size : w.heap.size ≤ w'.heap.size
  block : ∀ g, g < w.heap.size → D g → w'.heap[g]? = w.heap[g]?
def bmv (b : Bm) (iv kv : Value) : Value := .agg #[.string ⟨b.nm.toArray⟩, .int .i64 b.dp, .int .i64 b.d.k, .int .i64 b.d.n, .string ⟨b.d.s.toArray⟩, iv, kv]
def bcells (b : Bm) (iv kv : Value) : List Value := [.string ⟨b.nm.toArray⟩, .int .i64 b.dp, .int .i64 b.d.k, .int .i64 b.d.n, .string ⟨b.d.s.toArray⟩, iv, kv]
def BnAt (w : World) : Bl → Nat → Nat → Prop
  | .nil, _, _ => True
  | .cons nm dp d ks r, b, o => b < w.heap.size ∧ w.cell? ⟨b, o, none⟩ = some (.string ⟨nm.toArray⟩) ∧ w.cell? ⟨b, o + 1, none⟩ = some (.int .i64 dp) ∧ w.cell? ⟨b, o + 2, none⟩ = some (.int .i64 d.k) ∧ w.cell? ⟨b, o + 3, none⟩ = some (.int .i64 d.n) ∧ w.cell? ⟨b, o + 4, none⟩ = some (.string ⟨d.s.toArray⟩)
      ∧ (∃ v, w.cell? ⟨b, o + 5, none⟩ = some v ∧ In w v d.is)
      ∧ (∃ A c, w.cell? ⟨b, o + 6, none⟩ = some (.slice A ks.len c) ∧ ks.len ≤ 9223372036854775807 ∧ ∃ b' o', (0 < ks.len → A = some ⟨b', o', none⟩) ∧ BnAt w ks b' o') ∧ BnAt w r b (o + 7)
/-- v is a slice of these bounds -/
def Bn (w : World) (v : Value) (l : Bl) : Prop := ∃ A c, v = .slice A l.len c ∧ l.len ≤ 9223372036854775807 ∧ ∃ b o, (0 < l.len → A = some ⟨b, o, none⟩) ∧ BnAt w l b o
/-- they can be read, and lie in blocks of D alone -/
def DnD (w : World) (D : Nat → Prop) (v : Value) (d : RM.Dl) : Prop := ∀ w', Kp D w w' → In w' v d
def BnD (w : World) (D : Nat → Prop) (v : Value) (l : Bl) : Prop := ∀ w', Kp D w w' → Bn w' v l
structure BmD (w : World) (D : Nat → Prop) (b : Bm) (iv kv : Value) : Prop where
  d : DnD w D iv b.d.is
  k : BnD w D kv b.ks
section
variable {w w' w2 : World} {v : Value} {D D' X : Nat → Prop}
theorem Kp.refl (D : Nat → Prop) (w : World) : Kp D w w := ⟨Nat.le_refl _, fun _ _ _ => rfl⟩
theorem Kp.trans (h : Kp D w w') (k : Kp D w' w2) : Kp D w w2 := ⟨Nat.le_trans h.size k.size, fun g hg hd => (k.block g (Nat.lt_of_lt_of_le hg h.size) hd).trans (h.block g hg hd)⟩
theorem Kp.mono (h : Kp D w w') (hd : ∀ g, g < w.heap.size → D' g → D g) : Kp D' w w' := ⟨h.size, fun g hg hh => h.block g hg (hd g hg hh)⟩
theorem Kp.of_turns (h : Turns X w w') (hx : ∀ g, g < w.heap.size → D g → ¬ X g) : Kp D w w' := ⟨h.size, fun g hg hd => h.block g hg (hx g hg hd)⟩
theorem Kp.of_below (h : Below w.heap.size w w') : Kp D w w' := ⟨h.size, fun g hg _ => h.block g hg⟩
theorem Kp.of_below' {B : Nat} (h : Below B w w') (hd : ∀ g, g < w.heap.size → D g → g < B) : Kp D w w' := ⟨h.size, fun g hg hh => h.block g (hd g hg hh)⟩
theorem Kp.cell (h : Kp D w w') {p : Addr} (hp : p.block < w.heap.size) (hd : D p.block) : w'.cell? p = w.cell? p := by
  unfold World.cell?
  rw [h.block p.block hp hd]
theorem Kp.lies {g : Nat} {t : TypeId} {cs : List Value} (h : Kp D w w') (hl : Lies w g t cs) (hd : D g) : Lies w' g t cs := (h.block g hl.lt hd).trans hl
theorem DnD.in_ {d : RM.Dl} (h : DnD w D v d) : In w v d := h w (Kp.refl _ _)
theorem DnD.kp {d : RM.Dl} (h : DnD w D v d) (k : Kp D w w') : DnD w' D v d := fun w2 k2 => h w2 (k.trans k2)
theorem DnD.mono {d : RM.Dl} (h : DnD w D v d) (hd : ∀ g, g < w.heap.size → D g → D' g) : DnD w D' v d := fun w2 k2 => h w2 (k2.mono hd)
theorem DnD.nil (w : World) (D : Nat → Prop) : DnD w D (.slice none 0 0) .nil := fun w' _ => (Cn.nil w').in_
theorem BnD.kp {l : Bl} (h : BnD w D v l) (k : Kp D w w') : BnD w' D v l := fun w2 k2 => h w2 (k.trans k2)
theorem BnD.mono {l : Bl} (h : BnD w D v l) (hd : ∀ g, g < w.heap.size → D g → D' g) : BnD w D' v l := fun w2 k2 => h w2 (k2.mono hd)
theorem Bn.nil (w : World) : Bn w (.slice none 0 0) .nil := ⟨none, 0, rfl, by simp [Bl.len], 0, 0, fun h => absurd h (by simp [Bl.len]), trivial⟩
theorem BnD.nil (w : World) (D : Nat → Prop) : BnD w D (.slice none 0 0) .nil := fun w' _ => Bn.nil w'
theorem Bn.read {l : Bl} (h : Bn w v l) : ∃ A c, v = .slice A l.len c := by
  obtain ⟨A, c, e, _⟩ := h; exact ⟨A, c, e⟩
theorem BnD.read {l : Bl} (h : BnD w D v l) : ∃ A c, v = .slice A l.len c := (h w (Kp.refl _ _)).read
theorem BmD.kp {b : Bm} {iv kv : Value} (h : BmD w D b iv kv) (k : Kp D w w') : BmD w' D b iv kv := ⟨h.d.kp k, h.k.kp k⟩
theorem BmD.mono {b : Bm} {iv kv : Value} (h : BmD w D b iv kv) (hd : ∀ g, g < w.heap.size → D g → D' g) : BmD w D' b iv kv := ⟨h.d.mono hd, h.k.mono hd⟩
theorem CnAt.kp (k : Kp (fun g => g < w.heap.size) w w') : ∀ {d : RM.Dl} {b o : Nat}, CnAt w d b o → CnAt w' d b o
  | .nil, _, _, _ => trivial
  | .cons _ _ _ _ _, b, o, ⟨h0, h1, h2, h3, ⟨A, c, h4, hl, b', o', h5, h6⟩, h7⟩ =>
    ⟨Nat.lt_of_lt_of_le h0 k.size, (k.cell (p := ⟨b, o, none⟩) h0 h0).trans h1, (k.cell (p := ⟨b, o + 1, none⟩) h0 h0).trans h2, (k.cell (p := ⟨b, o + 2, none⟩) h0 h0).trans h3,
      ⟨A, c, (k.cell (p := ⟨b, o + 3, none⟩) h0 h0).trans h4, hl, b', o', h5, CnAt.kp k h6⟩, CnAt.kp k h7⟩
theorem Cn.kp {d : RM.Dl} (h : Cn w v d) (k : Kp (fun g => g < w.heap.size) w w') : Cn w' v d := by
  obtain ⟨A, c, e, hl, b, o, h1, h2⟩ := h
  exact ⟨A, c, e, hl, b, o, h1, h2.kp k⟩
/-- what lay below a base in a world, in a later one that has kept it -/
theorem Kp.from_ {w0 : World} {S : Nat → Prop} (hb : Below w0.heap.size w0 w) (k : Kp S w w') (hS : ∀ g, g < w0.heap.size → S g) : Kp (fun g => g < w0.heap.size) w0 w' :=
  ⟨Nat.le_trans hb.size k.size, fun g hg _ => (k.block g (Nat.lt_of_lt_of_le hg hb.size) (hS g hg)).trans (hb.block g hg)⟩
/-- data of one's own stay as long as their blocks do -/
theorem Dat.kp {S : Nat → Prop} {d : RM.Dl} (h : Dat w S v d) (k : Kp S w w') : Dat w' S v d := by
  have row : ∀ {u : Value} {n : Nat} {cs : List Value}, w.ownsRow 0 24 4 u n cs → (∀ g, u.ownBlock = some g → S g) → w'.ownsRow 0 24 4 u n cs := by
    intro u n cs h hs
    have hlt := World.ownsRow.lt h
    obtain ⟨h1, h2⟩ := h
    refine ⟨h1, ?_⟩
    rcases h2 with h2 | ⟨g, cap, cur, hv, hg, hh, r⟩
    · exact .inl h2
    · have ho : u.ownBlock = some g := by rw [hv]; rfl
      exact .inr ⟨g, cap, cur, hv, hg, (k.block g (hlt g ho).2 (hs g ho)).trans hh, r⟩
  have at_ : ∀ (d : RM.Dl) (cs : List Value), DatAt w S d cs → DatAt w' S d cs := by
    intro d
    induction d with
    | nil => exact fun _ h => h
    | cons k n s is r ih1 ih2 =>
      rintro cs ⟨v, c1, c2, h1, h2, h3, h4, h5⟩
      exact ⟨v, c1, c2, h1, row h2 h3, h3, ih1 _ h4, ih2 _ h5⟩
  obtain ⟨cs, h1, h2, h3⟩ := h
  exact ⟨cs, row h1 h2, h2, at_ _ _ h3⟩
theorem Dat.dnd {S : Nat → Prop} {d : RM.Dl} (h : Dat w S v d) : DnD w S v d := fun _ k => (h.kp k).in_
end
/-- a row's cells -/
def KAt (w : World) (D : Nat → Prop) : Bl → List Value → Prop
  | .nil, cs => cs = []
  | .cons nm dp d ks r, cs => ∃ iv kv c2, cs = bcells ⟨nm, dp, d, ks⟩ iv kv ++ c2 ∧ BmD w D ⟨nm, dp, d, ks⟩ iv kv ∧ KAt w D r c2
/-- v is a row of these bounds, of one's own -/
def KOwn (w : World) (D : Nat → Prop) (v : Value) (l : Bl) : Prop := ∃ cs, w.ownsRow 0 38 7 v l.len cs ∧ (∀ g, v.ownBlock = some g → D g) ∧ KAt w (fun g => D g ∧ v.ownBlock ≠ some g) l cs
section
variable {w w' : World} {v : Value} {D D' X : Nat → Prop}
theorem KAt.kp (k : Kp D w w') : ∀ {l : Bl} {cs : List Value}, KAt w D l cs → KAt w' D l cs
  | .nil, _, h => h
  | .cons _ _ _ _ _, _, ⟨iv, kv, c2, h1, h2, h3⟩ => ⟨iv, kv, c2, h1, h2.kp k, KAt.kp k h3⟩
theorem KAt.mono (hd : ∀ g, g < w.heap.size → D g → D' g) : ∀ {l : Bl} {cs : List Value}, KAt w D l cs → KAt w D' l cs
  | .nil, _, h => h
  | .cons _ _ _ _ _, _, ⟨iv, kv, c2, h1, h2, h3⟩ => ⟨iv, kv, c2, h1, h2.mono hd, KAt.mono hd h3⟩
theorem KAt.app : ∀ {l e : Bl} {cs es : List Value}, KAt w D l cs → KAt w D e es → KAt w D (l.app e) (cs ++ es)
  | .nil, _, cs, _, h, k => by rw [show cs = [] from h]; exact k
  | .cons _ _ _ _ _, _, _, _, ⟨iv, kv, c2, h1, h2, h3⟩, k => ⟨iv, kv, _, by rw [h1, List.append_assoc], h2, KAt.app h3 k⟩
theorem KOwn.nil (w : World) (D : Nat → Prop) : KOwn w D (.slice none 0 0) .nil := ⟨[], own_none w 0 _ 7, (fun g hg => by cases hg), rfl⟩
theorem KOwn.of_own {B : Nat} (h : w.ownsRow B 38 7 v 0 []) (hD : ∀ g, B ≤ g → g < w.heap.size → D g) : KOwn w D v .nil := by
  refine ⟨[], ⟨h.1, ?_⟩, fun g hg => hD g (World.ownsRow.lt h g hg).1 (World.ownsRow.lt h g hg).2, rfl⟩
  rcases h.2 with h2 | ⟨g, cap, cur, a1, a2, a3, a4⟩
  · exact .inl h2
  · exact .inr ⟨g, cap, cur, a1, Nat.zero_le _, a3, a4⟩
theorem KOwn.lt {l : Bl} (h : KOwn w D v l) : ∀ g, v.ownBlock = some g → D g ∧ g < w.heap.size := by
  obtain ⟨cs, h1, h2, _⟩ := h
  exact fun g hg => ⟨h2 g hg, (World.ownsRow.lt h1 g hg).2⟩
theorem KOwn.read {l : Bl} (h : KOwn w D v l) : ∃ A c, v = .slice A l.len c := by
  obtain ⟨cs, h1, _⟩ := h
  obtain ⟨A, c, e, _⟩ := own_read h1
  exact ⟨A, c, e⟩
theorem KOwn.turns {l : Bl} (h : KOwn w D v l) (k : Turns X w w') (hX : ∀ g, g < w.heap.size → D g → ¬ X g) : KOwn w' D v l := by
  obtain ⟨cs, h1, h2, h3⟩ := h
  exact ⟨cs, own_turns h1 k (fun g hg => hX g (World.ownsRow.lt h1 g hg).2 (h2 g hg)), h2, h3.kp (Kp.of_turns k (fun g hg hs => hX g hg hs.1))⟩
theorem KOwn.below {l : Bl} (h : KOwn w D v l) (k : Below w.heap.size w w') : KOwn w' D v l := h.turns (Turns.of_below k (fun _ => False)) (fun _ _ _ h => h)
theorem BmD.one' {b : Bm} {iv kv : Value} (h : BmD w D b iv kv) : ∀ u ∈ bcells b iv kv, u.oneCell' = true := by
  obtain ⟨A, c, rfl⟩ := h.d.in_.read
  obtain ⟨A2, c2, rfl⟩ := h.k.read
  intro u hu
  simp only [bcells, List.mem_cons, List.not_mem_nil, or_false] at hu
  rcases hu with rfl | rfl | rfl | rfl | rfl | rfl | rfl <;> rfl
/-- one more behind one's own row: what append wants, and what it gives -/
theorem kown_push {D3 : Nat → Prop} {A : Option Addr} {j c : Nat} {out : Bl} {b : Bm} {iv kv : Value} (e : out.len = j) (h : KOwn w D (.slice A j c) out) (hb : BmD w D3 b iv kv)
    (h3 : ∀ g, g < w.heap.size → D3 g → D g ∧ (Value.slice A j c).ownBlock ≠ some g) (hD : D (w.heap.size + 1)) :
    ∃ cs, (w.alloc (.cells (bcells b iv kv).toArray 38)).ownsRow 0 38 7 (.slice A j c) j cs
      ∧ (∀ u ∈ bcells b iv kv, u.oneCell' = true)
      ∧ ∀ v9 w9, w9.ownsRow 0 38 7 v9 (j + 1) (cs ++ bcells b iv kv) → (w.alloc (.cells (bcells b iv kv).toArray 38)).grownBy w9 (Value.slice A j c).ownBlock →
        (v9.ownBlock = (Value.slice A j c).ownBlock ∨ v9.ownBlock = some (w.alloc (.cells (bcells b iv kv).toArray 38)).heap.size) → KOwn w9 D v9 (out.snoc b) := by
  have hl := h.lt
  obtain ⟨cs, h1, h2, h4⟩ := h
  rw [e] at h1
  have hone : KAt w (fun g => D g ∧ (Value.slice A j c).ownBlock ≠ some g) (.one b) (bcells b iv kv) := ⟨iv, kv, [], by simp, hb.mono h3, rfl⟩
  refine ⟨cs, own_turns h1 ((Turns.refl (fun _ => False) _).alloc _) (fun _ _ h => h), hb.one', fun v9 w9 h9 hg9 hat9 => ?_⟩
  have T := Turns.appendedS hg9
  refine ⟨cs ++ bcells b iv kv, by rw [Bl.len_snoc, e]; exact h9, fun g hg => ?_, ?_⟩
  · rcases hat9 with e1 | e1
    · rw [e1] at hg; exact (hl g hg).1
    · rw [e1] at hg
      injection hg with hg
      subst hg
      simpa using hD
  · have k1 : Kp (fun g => (D g ∧ (Value.slice A j c).ownBlock ≠ some g) ∧ g < w.heap.size) w w9 := (Kp.of_below ((Below.refl _ w).alloc (Nat.le_refl _) _)).trans (Kp.of_turns T (fun g _ hs => hs.1.2))
    refine KAt.mono ?_ (((h4.app hone).mono (D' := fun g => (D g ∧ (Value.slice A j c).ownBlock ≠ some g) ∧ g < w.heap.size) (fun g hg hs => ⟨hs, hg⟩)).kp k1)
    intro g _ hs
    refine ⟨hs.1.1, ?_⟩
    rcases hat9 with e1 | e1
    · rw [e1]; exact hs.1.2
    · rw [e1]
      intro hh
      injection hh with hh
      have := hs.2
      simp at hh
      omega
theorem BnAt.of_own : ∀ {l : Bl} {cs : List Value} {b o : Nat}, KAt w D l cs → b < w.heap.size → (∀ j, j < cs.length → w.cell? ⟨b, o + j, none⟩ = cs[j]?) → BnAt w l b o
  | .nil, _, _, _, _, _, _ => trivial
  | .cons nm dp d ks r, cs, b, o, ⟨iv, kv, c2, h1, h2, h3⟩, hb, hc => by
    subst h1
    have q : ∀ j, j < 7 → w.cell? ⟨b, o + j, none⟩ = (bcells ⟨nm, dp, d, ks⟩ iv kv)[j]? := fun j hj => by
      rw [hc j (by simp [bcells]; omega), List.getElem?_append_left (by simp [bcells]; omega)]
    obtain ⟨A, c, e, hl, b', o', hA, hk⟩ := h2.k w (Kp.refl _ _)
    refine ⟨hb, q 0 (by omega), q 1 (by omega), q 2 (by omega), q 3 (by omega), q 4 (by omega), ⟨iv, q 5 (by omega), h2.d.in_⟩, ⟨A, c, by rw [q 6 (by omega), ← e]; rfl, hl, b', o', hA, hk⟩, BnAt.of_own h3 hb fun j hj => ?_⟩
    have := hc (7 + j) (by simp [bcells]; omega)
    rw [show o + 7 + j = o + (7 + j) by omega, this, List.getElem?_append_right (by simp [bcells])]
    simp [bcells]
theorem KOwn.bnd {l : Bl} (h : KOwn w D v l) : BnD w D v l := by
  intro w' k
  have h' : KOwn w' D v l := by
    have hlt := h.lt
    obtain ⟨cs, h1, h2, h3⟩ := h
    refine ⟨cs, ⟨h1.1, ?_⟩, h2, h3.kp (k.mono fun g _ hs => hs.1)⟩
    rcases h1.2 with h4 | ⟨g, cap, cur, hv, hg, hh, r⟩
    · exact .inl h4
    · have ho : v.ownBlock = some g := by rw [hv]; rfl
      exact .inr ⟨g, cap, cur, hv, hg, (k.block g (hlt g ho).2 (h2 g ho)).trans hh, r⟩
  obtain ⟨cs, h1, h2, h3⟩ := h'
  obtain ⟨A, c, rfl, hr⟩ := own_read h1
  have hl : cs.length = l.len * 7 := h1.1
  by_cases h0 : 0 < l.len
  · obtain ⟨g, hg, _, hlt, _⟩ := hr 0 (by omega)
    refine ⟨A, c, rfl, own_len h1, g, 0, fun _ => hg, BnAt.of_own h3 hlt fun j hj => ?_⟩
    obtain ⟨g', hg', _, _, h'⟩ := hr j (by omega)
    rw [hg] at hg'
    cases hg'
    rw [Nat.zero_add]
    exact h'
  · have : l = .nil := by
      cases l with
      | nil => rfl
      | cons => simp [Bl.len] at h0
    subst this
    exact ⟨A, c, rfl, own_len h1, 0, 0, fun h => absurd h (by simp [Bl.len]), trivial⟩
/-! ### reading -/
theorem BnAt.at_ : ∀ {l : Bl} {b o i : Nat} {x : Bm}, BnAt w l b o → l.at_ i = some x →
    b < w.heap.size ∧ w.cell? ⟨b, o + i * 7, none⟩ = some (.string ⟨x.nm.toArray⟩) ∧ w.cell? ⟨b, o + i * 7 + 1, none⟩ = some (.int .i64 x.dp) ∧ w.cell? ⟨b, o + i * 7 + 2, none⟩ = some (.int .i64 x.d.k) ∧ w.cell? ⟨b, o + i * 7 + 3, none⟩ = some (.int .i64 x.d.n) ∧ w.cell? ⟨b, o + i * 7 + 4, none⟩ = some (.string ⟨x.d.s.toArray⟩)
      ∧ ∃ I q K r, w.cell? ⟨b, o + i * 7 + 5, none⟩ = some (.slice I x.d.is.len q) ∧ w.cell? ⟨b, o + i * 7 + 6, none⟩ = some (.slice K x.ks.len r) ∧ In w (.slice I x.d.is.len q) x.d.is ∧ Bn w (.slice K x.ks.len r) x.ks
  | .nil, _, _, _, _, _, hx => by simp [Bl.at_] at hx
  | .cons nm dp d ks r, b, o, 0, x, ⟨h0, h1, h2, h3, h4, h5, ⟨v, h6, hv⟩, ⟨A, c, h7, hl, b', o', hA, hk⟩, _⟩, hx => by
    simp only [Bl.at_, Option.some.injEq] at hx
    subst hx
    simp only [Nat.zero_mul, Nat.add_zero]
    obtain ⟨I, q, rfl⟩ := hv.read
    exact ⟨h0, h1, h2, h3, h4, h5, I, q, A, c, h6, h7, hv, ⟨A, c, rfl, hl, b', o', hA, hk⟩⟩
  | .cons nm dp d ks r, b, o, i + 1, x, ⟨_, _, _, _, _, _, _, _, hr⟩, hx => by
    have h := BnAt.at_ hr (show r.at_ i = some x from hx)
    rw [show o + (i + 1) * 7 = o + 7 + i * 7 by omega]
    exact h
theorem Bn.at_ {A : Option Addr} {n c : Nat} {l : Bl} (h : Bn w (.slice A n c) l) {i : Nat} {x : Bm} (hx : l.at_ i = some x) :
    ∃ b o, A = some ⟨b, o, none⟩ ∧ b < w.heap.size ∧ w.cell? ⟨b, o + i * 7, none⟩ = some (.string ⟨x.nm.toArray⟩) ∧ w.cell? ⟨b, o + i * 7 + 1, none⟩ = some (.int .i64 x.dp) ∧ w.cell? ⟨b, o + i * 7 + 2, none⟩ = some (.int .i64 x.d.k) ∧ w.cell? ⟨b, o + i * 7 + 3, none⟩ = some (.int .i64 x.d.n) ∧ w.cell? ⟨b, o + i * 7 + 4, none⟩ = some (.string ⟨x.d.s.toArray⟩)
      ∧ ∃ I q K r, w.cell? ⟨b, o + i * 7 + 5, none⟩ = some (.slice I x.d.is.len q) ∧ w.cell? ⟨b, o + i * 7 + 6, none⟩ = some (.slice K x.ks.len r) ∧ In w (.slice I x.d.is.len q) x.d.is ∧ Bn w (.slice K x.ks.len r) x.ks := by
  obtain ⟨A', c', e, -, b, o, h1, h2⟩ := h
  injection e with e1 e2 e3
  subst e1 e2 e3
  have hl : 0 < l.len := by
    cases l with
    | nil => simp [Bl.at_] at hx
    | cons => simp [Bl.len]
  exact ⟨b, o, h1 hl, h2.at_ hx⟩
end
/-- seven cells of a block are stored anew -/
def seven (w : World) (g : Nat) (x0 x1 x2 x3 x4 x5 x6 : Value) : World := ((((((w.setCell ⟨g, 0, none⟩ x0).setCell ⟨g, 1, none⟩ x1).setCell ⟨g, 2, none⟩ x2).setCell ⟨g, 3, none⟩ x3).setCell ⟨g, 4, none⟩ x4).setCell ⟨g, 5, none⟩ x5).setCell ⟨g, 6, none⟩ x6
section
variable {w a : World} {g h B : Nat} {t : TypeId} {cs : List Value}
theorem seven_far (hL : Lies w h t cs) (hne : h ≠ g) (x0 x1 x2 x3 x4 x5 x6 : Value) : Lies (seven w g x0 x1 x2 x3 x4 x5 x6) h t cs :=
  ((((((hL.far (p := ⟨g, 0, none⟩) hne _).far (p := ⟨g, 1, none⟩) hne _).far (p := ⟨g, 2, none⟩) hne _).far (p := ⟨g, 3, none⟩) hne _).far (p := ⟨g, 4, none⟩) hne _).far (p := ⟨g, 5, none⟩) hne _).far (p := ⟨g, 6, none⟩) hne _
theorem seven_lies {y0 y1 y2 y3 y4 y5 y6 : Value} (hL : Lies w g t [y0, y1, y2, y3, y4, y5, y6]) (x0 x1 x2 x3 x4 x5 x6 : Value) : Lies (seven w g x0 x1 x2 x3 x4 x5 x6) g t [x0, x1, x2, x3, x4, x5, x6] :=
  ((((((hL.stored 0 x0).stored 1 x1).stored 2 x2).stored 3 x3).stored 4 x4).stored 5 x5).stored 6 x6
theorem seven_below (h : Below B a w) (hg : B ≤ g) (x0 x1 x2 x3 x4 x5 x6 : Value) : Below B a (seven w g x0 x1 x2 x3 x4 x5 x6) :=
  ((((((h.setCell (p := ⟨g, 0, none⟩) hg _).setCell (p := ⟨g, 1, none⟩) hg _).setCell (p := ⟨g, 2, none⟩) hg _).setCell (p := ⟨g, 3, none⟩) hg _).setCell (p := ⟨g, 4, none⟩) hg _).setCell (p := ⟨g, 5, none⟩) hg _).setCell (p := ⟨g, 6, none⟩) hg _
theorem seven_one (w : World) (g : Nat) (x0 x1 x2 x3 x4 x5 x6 : Value) : Turns (fun k => k = g) w (seven w g x0 x1 x2 x3 x4 x5 x6) :=
  (((((((Turns.refl (fun k => k = g) w).setCell (p := ⟨g, 0, none⟩) (fun _ => rfl) _).setCell (p := ⟨g, 1, none⟩) (fun _ => rfl) _).setCell (p := ⟨g, 2, none⟩) (fun _ => rfl) _).setCell (p := ⟨g, 3, none⟩) (fun _ => rfl) _).setCell (p := ⟨g, 4, none⟩) (fun _ => rfl) _).setCell (p := ⟨g, 5, none⟩) (fun _ => rfl) _).setCell (p := ⟨g, 6, none⟩) (fun _ => rfl) _
end
end Go.Proofs.YtbomodendobnkaaGreat
