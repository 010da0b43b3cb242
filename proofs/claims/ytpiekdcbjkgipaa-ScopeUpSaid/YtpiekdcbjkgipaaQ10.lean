/- Terms in memory that the call itself has made: rows of terms within rows, each in a block of its own; how they stay, and are put together. -/
import Derived.Test.YtpiekdcbjkgipaaQ9
namespace Go.Proofs.Ytpiekdcbjkgipaa
open Go.ChangeShapes Go.WideShapes Go.ChangeAt Go.RowKit Go.Deep
open TM (Tl Tm)

theorem Try.infoTerm : (Try.prog.info? 32).map (fun i => (i.zero, i.size, i.bytes)) = some (some (.agg #[.int .i64 0, .int .i64 0, .string ⟨#[]⟩, .slice none 0 0, .int .i64 0, .int .i64 0, .string ⟨#[]⟩, .slice none 0 0, .slice none 0 0]), 9, 136) := by kernel_rfl

/-- the data can be read, and lie in blocks of D alone -/
def InD (w : World) (D : Nat → Prop) (v : Value) (d : RM.Dl) : Prop := ∀ w', Agr D w w' → In w' v d
/-- the nine cells of a term -/
def tcells (t : Tm) (vp vi vk : Value) : List Value := [.int .i64 t.k, .int .i64 t.n, .string ⟨t.s.toArray⟩, vp, .int .i64 t.d.k, .int .i64 t.d.n, .string ⟨t.d.s.toArray⟩, vi, vk]
/-- a row's cells: terms whose own rows lie in blocks of S, no two in one; their data lie in blocks of D -/
def TAt (w : World) (D : Nat → Prop) : Tl → (Nat → Prop) → List Value → Prop
  | .nil, _, cs => cs = []
  | .cons k n s ps d ks r, S, cs => ∃ (S1 S2 : Nat → Prop) (vp vi vk : Value) (c1 c2 : List Value), cs = tcells ⟨k, n, s, ps, d, ks⟩ vp vi vk ++ c2 ∧ (∀ g, S1 g → S g) ∧ (∀ g, S2 g → S g) ∧ (∀ g, S1 g → S2 g → False)
      ∧ (Own w 0 vp ps ∧ (∀ g, vp.ownBlock = some g → S1 g) ∧ InD w D vi d.is ∧ w.ownsRow 0 32 9 vk ks.len c1 ∧ (∀ g, vk.ownBlock = some g → S1 g) ∧ TAt w D ks (fun g => S1 g ∧ vk.ownBlock ≠ some g ∧ vp.ownBlock ≠ some g) c1)
      ∧ TAt w D r S2 c2
/-- a term's rows, in blocks of S -/
def TmOwn (w : World) (D S : Nat → Prop) (t : Tm) (vp vi vk : Value) : Prop :=
  ∃ c1, Own w 0 vp t.ps ∧ (∀ g, vp.ownBlock = some g → S g) ∧ InD w D vi t.d.is ∧ w.ownsRow 0 32 9 vk t.ks.len c1 ∧ (∀ g, vk.ownBlock = some g → S g) ∧ TAt w D t.ks (fun g => S g ∧ vk.ownBlock ≠ some g ∧ vp.ownBlock ≠ some g) c1
/-- v is a row of these terms -/
def TOwn (w : World) (D S : Nat → Prop) (v : Value) (t : Tl) : Prop := ∃ cs, w.ownsRow 0 32 9 v t.len cs ∧ (∀ g, v.ownBlock = some g → S g) ∧ TAt w D t (fun g => S g ∧ v.ownBlock ≠ some g) cs

section
variable {w w' : World} {v : Value} {D D' S S' S2 X : Nat → Prop}
theorem InD.in_ {d : RM.Dl} (h : InD w D v d) : In w v d := h w (Agr.refl _ _)
theorem InD.agr {d : RM.Dl} (h : InD w D v d) (k : Agr D w w') : InD w' D v d := fun w2 k2 => h w2 (k.trans k2)
theorem InD.mono {d : RM.Dl} (h : InD w D v d) (hd : ∀ g, g < w.heap.size → D g → D' g) : InD w D' v d := fun w2 k2 => h w2 (k2.mono hd)
theorem In.ind {d : RM.Dl} (h : In w v d) : InD w (fun g => g < w.heap.size) v d := fun _ k => h.agr k
theorem Dat.agr {d : RM.Dl} (h : Dat w S v d) (k : Agr S w w') : Dat w' S v d := by
  have row : ∀ {u : Value} {n : Nat} {cs : List Value}, w.ownsRow 0 29 4 u n cs → (∀ g, u.ownBlock = some g → S g) → w'.ownsRow 0 29 4 u n cs := by
    intro u n cs h hs
    have hlt := World.ownsRow.lt h
    obtain ⟨h1, h2⟩ := h
    refine ⟨h1, ?_⟩
    rcases h2 with h2 | ⟨g, cap, cur, hv, hg, hh, r⟩
    · exact .inl h2
    · have ho : u.ownBlock = some g := by rw [hv]; rfl
      exact .inr ⟨g, cap, cur, hv, hg, (k.block g (hlt g ho).2 (hs g ho)).trans hh, r⟩
  have at_ : ∀ (d : RM.Dl) (cs : List Value), DatAt w S d cs → DatAt w' S d cs := by
    intro d
    induction d with
    | nil => exact fun _ h => h
    | cons k n s is r ih1 ih2 =>
      rintro cs ⟨v, c1, c2, h1, h2, h3, h4, h5⟩
      exact ⟨v, c1, c2, h1, row h2 h3, h3, ih1 _ h4, ih2 _ h5⟩
  obtain ⟨cs, h1, h2, h3⟩ := h
  exact ⟨cs, row h1 h2, h2, at_ _ _ h3⟩
theorem Dat.ind {d : RM.Dl} (h : Dat w S v d) : InD w S v d := fun _ k => (h.agr k).in_
theorem InD.nil (w : World) (D : Nat → Prop) : InD w D (.slice none 0 0) .nil := fun _ _ => In.nil _

theorem TAt.cons {k n : Int} {s : List UInt8} {ps : List Int} {d : RM.Dm} {ks r : Tl} {cs : List Value} : TAt w D (.cons k n s ps d ks r) S cs ↔
    ∃ (S1 S2 : Nat → Prop) (vp vi vk : Value) (c2 : List Value), cs = tcells ⟨k, n, s, ps, d, ks⟩ vp vi vk ++ c2 ∧ (∀ g, S1 g → S g) ∧ (∀ g, S2 g → S g) ∧ (∀ g, S1 g → S2 g → False) ∧ TmOwn w D S1 ⟨k, n, s, ps, d, ks⟩ vp vi vk ∧ TAt w D r S2 c2 := by
  constructor
  · rintro ⟨S1, S2, vp, vi, vk, c1, c2, h1, h2, h3, h4, ⟨h5, h6, h7, h8, h9, h10⟩, h11⟩
    exact ⟨S1, S2, vp, vi, vk, c2, h1, h2, h3, h4, ⟨c1, h5, h6, h7, h8, h9, h10⟩, h11⟩
  · rintro ⟨S1, S2, vp, vi, vk, c2, h1, h2, h3, h4, ⟨c1, h5, h6, h7, h8, h9, h10⟩, h11⟩
    exact ⟨S1, S2, vp, vi, vk, c1, c2, h1, h2, h3, h4, ⟨h5, h6, h7, h8, h9, h10⟩, h11⟩
/-- more blocks; of those that are none yet nothing is said -/
theorem TAt.mono : ∀ {t : Tl} {S S' : Nat → Prop} {cs : List Value}, (∀ g, g < w.heap.size → S g → S' g) → TAt w D t S cs → TAt w D t S' cs
  | .nil, _, _, _, _, h => h
  | .cons _ _ _ _ _ _ _, _, _, _, hS, ⟨S1, S2, vp, vi, vk, c1, c2, h1, h2, h3, h4, ⟨h5, h6, h7, h8, h9, h10⟩, h11⟩ =>
    ⟨fun g => S1 g ∧ g < w.heap.size, fun g => S2 g ∧ g < w.heap.size, vp, vi, vk, c1, c2, h1, fun g hg => hS g hg.2 (h2 g hg.1), fun g hg => hS g hg.2 (h3 g hg.1), fun g ha hb => h4 g ha.1 hb.1,
      ⟨h5, fun g hg => ⟨h6 g hg, (h5.lt g hg).2⟩, h7, h8, fun g hg => ⟨h9 g hg, (World.ownsRow.lt h8 g hg).2⟩, TAt.mono (fun _ hg hs => ⟨⟨hs.1, hg⟩, hs.2⟩) h10⟩, TAt.mono (fun _ hg hs => ⟨hs, hg⟩) h11⟩
theorem TAt.turns : ∀ {t : Tl} {S : Nat → Prop} {cs : List Value}, Turns X w w' → (∀ g, g < w.heap.size → S g → ¬ X g) → (∀ g, g < w.heap.size → D g → ¬ X g) → TAt w D t S cs → TAt w' D t S cs
  | .nil, _, _, _, _, _, h => h
  | .cons _ _ _ _ _ _ _, _, _, hk, hX, hD, ⟨S1, S2, vp, vi, vk, c1, c2, h1, h2, h3, h4, ⟨h5, h6, h7, h8, h9, h10⟩, h11⟩ =>
    ⟨S1, S2, vp, vi, vk, c1, c2, h1, h2, h3, h4,
      ⟨h5.turns hk (fun g hg => hX g (h5.lt g hg).2 (h2 g (h6 g hg))), h6, h7.agr (Agr.of_turns hk hD), own_turns h8 hk (fun g hg => hX g (World.ownsRow.lt h8 g hg).2 (h2 g (h9 g hg))), h9,
        TAt.turns hk (fun g hg hs => hX g hg (h2 g hs.1)) hD h10⟩, TAt.turns hk (fun g hg hs => hX g hg (h3 g hs)) hD h11⟩
theorem TAt.dmono : ∀ {t : Tl} {S : Nat → Prop} {cs : List Value}, (∀ g, g < w.heap.size → D g → D' g) → TAt w D t S cs → TAt w D' t S cs
  | .nil, _, _, _, h => h
  | .cons _ _ _ _ _ _ _, _, _, hD, ⟨S1, S2, vp, vi, vk, c1, c2, h1, h2, h3, h4, ⟨h5, h6, h7, h8, h9, h10⟩, h11⟩ =>
    ⟨S1, S2, vp, vi, vk, c1, c2, h1, h2, h3, h4, ⟨h5, h6, h7.mono hD, h8, h9, TAt.dmono hD h10⟩, TAt.dmono hD h11⟩
theorem TAt.app : ∀ {t e : Tl} {S : Nat → Prop} {cs es : List Value}, TAt w D t S cs → TAt w D e S2 es → (∀ g, g < w.heap.size → S g → S2 g → False) → TAt w D (t.app e) (fun g => S g ∨ S2 g) (cs ++ es)
  | .nil, e, S, cs, es, h, k, _ => by rw [show cs = [] from h]; exact TAt.mono (fun g _ hs => .inr hs) k
  | .cons _ _ _ _ _ _ r, e, S, cs, es, ⟨S1, S3, vp, vi, vk, c1, c2, h1, h2, h3, h4, ⟨h5, h6, h7, h8, h9, h10⟩, h11⟩, k, hd => by
    refine ⟨fun g => S1 g ∧ g < w.heap.size, fun g => S3 g ∨ S2 g, vp, vi, vk, c1, c2 ++ es, by rw [h1, List.append_assoc], fun g hg => .inl (h2 g hg.1), fun g hg => hg.imp (h3 g) id, fun g ha hb => ?_,
      ⟨h5, fun g hg => ⟨h6 g hg, (h5.lt g hg).2⟩, h7, h8, fun g hg => ⟨h9 g hg, (World.ownsRow.lt h8 g hg).2⟩, TAt.mono (fun g hg hs => ⟨⟨hs.1, hg⟩, hs.2⟩) h10⟩, TAt.app h11 k (fun g hg ha hb => hd g hg (h3 g ha) hb)⟩
    rcases hb with hb | hb
    · exact h4 g ha.1 hb
    · exact hd g ha.2 (h2 g ha.1) hb
theorem TAt.len : ∀ {t : Tl} {S : Nat → Prop} {cs : List Value}, TAt w D t S cs → cs.length = t.len * 9
  | .nil, _, cs, h => by rw [show cs = [] from h]; simp [Tl.len]
  | .cons k n s ps d ks r, S, cs, ⟨S1, S2, vp, vi, vk, c1, c2, h1, h2, h3, h4, h5, h11⟩ => by
    have := TAt.len h11
    rw [h1, List.length_append, this, Tl.len]
    simp [tcells]; omega
theorem TmOwn.at_ {t : Tm} {vp vi vk : Value} (h : TmOwn w D S t vp vi vk) : TAt w D (.one t) S (tcells t vp vi vk) := by
  obtain ⟨c1, h5, h6, h7, h8, h9, h10⟩ := h
  exact ⟨S, fun _ => False, vp, vi, vk, c1, [], by simp, fun _ h => h, fun _ h => h.elim, fun _ _ h => h, ⟨h5, h6, h7, h8, h9, h10⟩, rfl⟩
theorem TmOwn.mono {t : Tm} {vp vi vk : Value} (h : TmOwn w D S t vp vi vk) (hS : ∀ g, g < w.heap.size → S g → S' g) : TmOwn w D S' t vp vi vk := by
  obtain ⟨c1, h5, h6, h7, h8, h9, h10⟩ := h
  exact ⟨c1, h5, fun g hg => hS g (h5.lt g hg).2 (h6 g hg), h7, h8, fun g hg => hS g (World.ownsRow.lt h8 g hg).2 (h9 g hg), TAt.mono (fun g hg hs => ⟨hS g hg hs.1, hs.2⟩) h10⟩
theorem TmOwn.dmono {t : Tm} {vp vi vk : Value} (h : TmOwn w D S t vp vi vk) (hD : ∀ g, g < w.heap.size → D g → D' g) : TmOwn w D' S t vp vi vk := by
  obtain ⟨c1, h5, h6, h7, h8, h9, h10⟩ := h
  exact ⟨c1, h5, h6, h7.mono hD, h8, h9, TAt.dmono hD h10⟩
theorem TmOwn.turns {t : Tm} {vp vi vk : Value} (h : TmOwn w D S t vp vi vk) (hk : Turns X w w') (hX : ∀ g, g < w.heap.size → S g → ¬ X g) (hD : ∀ g, g < w.heap.size → D g → ¬ X g) : TmOwn w' D S t vp vi vk := by
  obtain ⟨c1, h5, h6, h7, h8, h9, h10⟩ := h
  exact ⟨c1, h5.turns hk (fun g hg => hX g (h5.lt g hg).2 (h6 g hg)), h6, h7.agr (Agr.of_turns hk hD), own_turns h8 hk (fun g hg => hX g (World.ownsRow.lt h8 g hg).2 (h9 g hg)), h9, TAt.turns hk (fun g hg hs => hX g hg hs.1) hD h10⟩
theorem TmOwn.below {t : Tm} {vp vi vk : Value} (h : TmOwn w D S t vp vi vk) (k : Below w.heap.size w w') : TmOwn w' D S t vp vi vk := h.turns (Turns.of_below k (fun _ => False)) (fun _ _ _ h => h) (fun _ _ _ h => h)
theorem TOwn.turns {t : Tl} (h : TOwn w D S v t) (hk : Turns X w w') (hX : ∀ g, g < w.heap.size → S g → ¬ X g) (hD : ∀ g, g < w.heap.size → D g → ¬ X g) : TOwn w' D S v t := by
  obtain ⟨cs, h1, h2, h3⟩ := h
  exact ⟨cs, own_turns h1 hk (fun g hg => hX g (World.ownsRow.lt h1 g hg).2 (h2 g hg)), h2, TAt.turns hk (fun g hg hs => hX g hg hs.1) hD h3⟩
theorem TOwn.below {t : Tl} (h : TOwn w D S v t) (k : Below w.heap.size w w') : TOwn w' D S v t := h.turns (Turns.of_below k (fun _ => False)) (fun _ _ _ h => h) (fun _ _ _ h => h)
theorem TOwn.mono {t : Tl} (h : TOwn w D S v t) (hS : ∀ g, g < w.heap.size → S g → S' g) : TOwn w D S' v t := by
  obtain ⟨cs, h1, h2, h3⟩ := h
  exact ⟨cs, h1, fun g hg => hS g (World.ownsRow.lt h1 g hg).2 (h2 g hg), TAt.mono (fun g hg hs => ⟨hS g hg hs.1, hs.2⟩) h3⟩
theorem TOwn.lt {t : Tl} (h : TOwn w D S v t) : ∀ g, v.ownBlock = some g → S g ∧ g < w.heap.size := by
  obtain ⟨cs, h1, h2, _⟩ := h
  exact fun g hg => ⟨h2 g hg, (World.ownsRow.lt h1 g hg).2⟩
theorem TOwn.read {t : Tl} (h : TOwn w D S v t) : ∃ A c, v = .slice A t.len c := by
  obtain ⟨cs, h1, _⟩ := h
  obtain ⟨A, c, e, _⟩ := own_read h1
  exact ⟨A, c, e⟩
theorem TOwn.nil (w : World) (D S : Nat → Prop) : TOwn w D S (.slice none 0 0) .nil := ⟨[], own_none w 0 _ 9, (fun g hg => by cases hg), rfl⟩
theorem TmOwn.kids {t : Tm} {vp vi vk : Value} (h : TmOwn w D S t vp vi vk) : TOwn w D S vk t.ks := by
  obtain ⟨c1, h5, h6, h7, h8, h9, h10⟩ := h
  exact ⟨c1, h8, h9, TAt.mono (fun g _ hs => ⟨hs.1, hs.2.1⟩) h10⟩
/-- its cells are all of one cell -/
theorem Own.one' {l : List Int} {B : Nat} (h : Own w B v l) : v.oneCell' = true := by
  rcases h.2 with ⟨rfl, _⟩ | ⟨g, cap, cur, rfl, _⟩ <;> rfl
theorem In.one' {d : RM.Dl} (h : In w v d) : v.oneCell' = true := by
  obtain ⟨A, c, rfl⟩ := h.read; rfl
theorem row_one' {e : TypeId} {B sz n : Nat} {cs : List Value} (h : w.ownsRow B e sz v n cs) : v.oneCell' = true := by
  rcases h.2 with ⟨rfl, _⟩ | ⟨g, cap, cur, rfl, _⟩ <;> rfl
theorem TAt.one : ∀ {t : Tl} {S : Nat → Prop} {cs : List Value}, TAt w D t S cs → ∀ u ∈ cs, u.oneCell' = true
  | .nil, _, cs, h => by rw [show cs = [] from h]; simp
  | .cons k n s ps d ks r, S, cs, ⟨S1, S2, vp, vi, vk, c1, c2, h1, h2, h3, h4, ⟨h5, h6, h7, h8, h9, h10⟩, h11⟩ => by
    intro u hu
    rw [h1] at hu
    rcases List.mem_append.1 hu with hu | hu
    · simp only [tcells, List.mem_cons, List.not_mem_nil, or_false] at hu
      rcases hu with rfl | rfl | rfl | rfl | rfl | rfl | rfl | rfl | rfl
      all_goals first | rfl | exact h5.one' | exact h7.in_.one' | exact row_one' h8
    · exact TAt.one h11 u hu

/-- one's own ints can be read -/
theorem Own.pin {l : List Int} {B : Nat} (h : Own w B v l) : PIn w v l := by
  have hlen : l.length ≤ 9223372036854775807 := by
    rcases h.2 with ⟨_, hn⟩ | ⟨g, cap, cur, _, _, _, hc, hm, _⟩
    · omega
    · unfold maxLen at hm; omega
  obtain ⟨A, c, rfl, hr⟩ := h.read
  by_cases h0 : 0 < l.length
  · obtain ⟨g, hg, _, hlt, _⟩ := hr 0 h0
    refine ⟨A, c, rfl, hlen, g, 0, fun _ => ⟨hg, hlt⟩, fun j x hx => ?_⟩
    have hj := (List.getElem?_eq_some_iff.1 hx).1
    obtain ⟨g', hg', _, _, h'⟩ := hr j hj
    rw [hg] at hg'
    cases hg'
    rw [Nat.zero_add, h', List.getD_eq_getElem?_getD, hx]; rfl
  · have : l = [] := List.eq_nil_of_length_eq_zero (by omega)
    subst this
    exact ⟨A, c, rfl, hlen, 0, 0, fun h => absurd h (by simp), fun j x hx => by simp at hx⟩
theorem TInAt.of_own : ∀ {t : Tl} {S : Nat → Prop} {cs : List Value} {b o : Nat}, TAt w D t S cs → b < w.heap.size → (∀ j, j < cs.length → w.cell? ⟨b, o + j, none⟩ = cs[j]?) → TInAt w t b o
  | .nil, _, _, _, _, _, _, _ => trivial
  | .cons k n s ps d ks r, S, cs, b, o, ⟨S1, S2, vp, vi, vk, c1, c2, h1, h2, h3, h4, ⟨h5, h6, h7, h8, h9, h10⟩, h11⟩, hb, hc => by
    subst h1
    obtain ⟨A, c, rfl, hr⟩ := own_read h8
    have hl : c1.length = ks.len * 9 := h8.1
    have q : ∀ j, j < 9 → w.cell? ⟨b, o + j, none⟩ = (tcells ⟨k, n, s, ps, d, ks⟩ vp vi (.slice A ks.len c))[j]? := fun j hj => by
      rw [hc j (by simp [tcells]; omega), List.getElem?_append_left (by simp [tcells]; omega)]
    refine ⟨hb, q 0 (by omega), q 1 (by omega), q 2 (by omega), ⟨vp, q 3 (by omega), h5.pin⟩, q 4 (by omega), q 5 (by omega), q 6 (by omega), ⟨vi, q 7 (by omega), h7.in_⟩, ⟨A, c, q 8 (by omega), own_len h8, ?_⟩, TInAt.of_own h11 hb ?_⟩
    · by_cases h0 : 0 < ks.len
      · obtain ⟨g, hg, _, hlt, _⟩ := hr 0 (by omega)
        refine ⟨g, 0, fun _ => hg, TInAt.of_own h10 hlt fun j hj => ?_⟩
        obtain ⟨g', hg', _, _, h'⟩ := hr j (by omega)
        rw [hg] at hg'
        cases hg'
        rw [Nat.zero_add]
        exact h'
      · have : ks = .nil := by
          cases ks with
          | nil => rfl
          | cons => simp [Tl.len] at h0
        subst this
        exact ⟨0, 0, fun h => absurd h (by simp [Tl.len]), trivial⟩
    · intro j hj
      have := hc (9 + j) (by simp [tcells]; omega)
      rw [show o + 9 + j = o + (9 + j) by omega, this, List.getElem?_append_right (by simp [tcells])]
      simp [tcells]
theorem TOwn.tin {t : Tl} (h : TOwn w D S v t) : TIn w v t := by
  obtain ⟨cs, h1, h2, h3⟩ := h
  have hlen := own_len h1
  obtain ⟨A, c, rfl, hr⟩ := own_read h1
  have hl : cs.length = t.len * 9 := h1.1
  by_cases h0 : 0 < t.len
  · obtain ⟨g, hg, _, hlt, _⟩ := hr 0 (by omega)
    refine ⟨A, c, rfl, hlen, g, 0, fun _ => hg, TInAt.of_own h3 hlt fun j hj => ?_⟩
    obtain ⟨g', hg', _, _, h'⟩ := hr j (by omega)
    rw [hg] at hg'
    cases hg'
    rw [Nat.zero_add]
    exact h'
  · have : t = .nil := by
      cases t with
      | nil => rfl
      | cons => simp [Tl.len] at h0
    subst this
    exact ⟨A, c, rfl, hlen, 0, 0, fun h => absurd h (by simp [Tl.len]), trivial⟩
theorem TmOwn.tmin {t : Tm} {vp vi vk : Value} (h : TmOwn w D S t vp vi vk) : TmIn w t vp vi vk := by
  have hk := h.kids.tin
  obtain ⟨c1, h5, h6, h7, h8, h9, h10⟩ := h
  exact ⟨h5.pin, h7.in_, hk⟩
end
end Go.Proofs.Ytpiekdcbjkgipaa
