/- Terms in memory that the call itself has made: rows of terms within rows, each in a block of its own; how they stay, and are put together. -/
import Derived.Test.YtpiekdcbjkgipaaGreatDoorQ5
import Derived.Lib.Hide
import Derived.Shelf.Abstract
import Derived.Maps.OwnSet
import Derived.Test.YtpiekdcbjkgipaaGreatDoorQ4
import Derived.Test.YtpiekdcbjkgipaaGreatDoorQ2
import Derived.Deep.RegionHeld3
import Derived.Deep.RegionWith
namespace Go.Proofs.YtpiekdcbjkgipaaGreatDoor
open Go.ChangeShapes Go.WideShapes Go.ChangeAt Go.RowKit Go.Deep
open TM (Tl Tm)

theorem Tryz.infoTerm : (Tryz.prog.info? 28).map (fun i => (i.zero, i.size, i.bytes)) = some (some (.agg #[.int .i64 0, .int .i64 0, .string ⟨#[]⟩, .slice none 0 0, .int .i64 0, .int .i64 0, .string ⟨#[]⟩, .slice none 0 0, .slice none 0 0]), 9, 136) := by kernel_rfl

/-- the data can be read, and lie in blocks of D alone -/
def InD (w : World) (D : Nat → Prop) (v : Value) (d : RM.Dl) : Prop := ∀ w', Agr D w w' → In w' v d
/-- the nine cells of a term -/
def tcells (t : Tm) (vp vi vk : Value) : List Value := [.int .i64 t.k, .int .i64 t.n, .string ⟨t.s.toArray⟩, vp, .int .i64 t.d.k, .int .i64 t.d.n, .string ⟨t.d.s.toArray⟩, vi, vk]
/-- a row's cells: terms whose own rows lie in blocks of S, no two in one; their data lie in blocks of D -/
def TAt (w : World) (D : Nat → Prop) : Tl → (Nat → Prop) → List Value → Prop
  | .nil, _, cs => cs = []
  | .cons k n s ps d ks r, S, cs => ∃ (S1 S2 : Nat → Prop) (vp vi vk : Value) (c1 c2 : List Value), cs = tcells ⟨k, n, s, ps, d, ks⟩ vp vi vk ++ c2 ∧ (∀ g, S1 g → S g) ∧ (∀ g, S2 g → S g) ∧ (∀ g, S1 g → S2 g → False)
      ∧ (Own w 0 vp ps ∧ (∀ g, vp.ownBlock = some g → S1 g) ∧ InD w D vi d.is ∧ w.ownsRow 0 28 9 vk ks.len c1 ∧ (∀ g, vk.ownBlock = some g → S1 g) ∧ TAt w D ks (fun g => S1 g ∧ vk.ownBlock ≠ some g ∧ vp.ownBlock ≠ some g) c1)
      ∧ TAt w D r S2 c2
/-- a term's rows, in blocks of S -/
def TmOwn (w : World) (D S : Nat → Prop) (t : Tm) (vp vi vk : Value) : Prop :=
  ∃ c1, Own w 0 vp t.ps ∧ (∀ g, vp.ownBlock = some g → S g) ∧ InD w D vi t.d.is ∧ w.ownsRow 0 28 9 vk t.ks.len c1 ∧ (∀ g, vk.ownBlock = some g → S g) ∧ TAt w D t.ks (fun g => S g ∧ vk.ownBlock ≠ some g ∧ vp.ownBlock ≠ some g) c1
/-- v is a row of these terms -/
def TOwn (w : World) (D S : Nat → Prop) (v : Value) (t : Tl) : Prop := ∃ cs, w.ownsRow 0 28 9 v t.len cs ∧ (∀ g, v.ownBlock = some g → S g) ∧ TAt w D t (fun g => S g ∧ v.ownBlock ≠ some g) cs

section
variable {w w' : World} {v : Value} {D D' S S' S2 X : Nat → Prop}
theorem InD.in_ {d : RM.Dl} (h : InD w D v d) : In w v d := h w (Agr.refl _ _)
theorem InD.agr {d : RM.Dl} (h : InD w D v d) (k : Agr D w w') : InD w' D v d := fun w2 k2 => h w2 (k.trans k2)
theorem InD.mono {d : RM.Dl} (h : InD w D v d) (hd : ∀ g, g < w.heap.size → D g → D' g) : InD w D' v d := fun w2 k2 => h w2 (k2.mono hd)
theorem In.ind {d : RM.Dl} (h : In w v d) : InD w (fun g => g < w.heap.size) v d := fun _ k => h.agr k
theorem Dat.agr {d : RM.Dl} (h : Dat w S v d) (k : Agr S w w') : Dat w' S v d := by
  have row : ∀ {u : Value} {n : Nat} {cs : List Value}, w.ownsRow 0 25 4 u n cs → (∀ g, u.ownBlock = some g → S g) → w'.ownsRow 0 25 4 u n cs := by
    intro u n cs h hs
    have hlt := World.ownsRow.lt h
    obtain ⟨h1, h2⟩ := h
    refine ⟨h1, ?_⟩
    rcases h2 with h2 | ⟨g, cap, cur, hv, hg, hh, r⟩
    · exact .inl h2
    · have ho : u.ownBlock = some g := by rw [hv]; rfl
      exact .inr ⟨g, cap, cur, hv, hg, (k.block g (hlt g ho).2 (hs g ho)).trans hh, r⟩
  have at_ : ∀ (d : RM.Dl) (cs : List Value), DatAt w S d cs → DatAt w' S d cs := by
    intro d
    induction d with
    | nil => exact fun _ h => h
    | cons k n s is r ih1 ih2 =>
      rintro cs ⟨v, c1, c2, h1, h2, h3, h4, h5⟩
      exact ⟨v, c1, c2, h1, row h2 h3, h3, ih1 _ h4, ih2 _ h5⟩
  obtain ⟨cs, h1, h2, h3⟩ := h
  exact ⟨cs, row h1 h2, h2, at_ _ _ h3⟩
theorem Dat.ind {d : RM.Dl} (h : Dat w S v d) : InD w S v d := fun _ k => (h.agr k).in_
theorem InD.nil (w : World) (D : Nat → Prop) : InD w D (.slice none 0 0) .nil := fun _ _ => In.nil _

theorem TAt.cons {k n : Int} {s : List UInt8} {ps : List Int} {d : RM.Dm} {ks r : Tl} {cs : List Value} : TAt w D (.cons k n s ps d ks r) S cs ↔
    ∃ (S1 S2 : Nat → Prop) (vp vi vk : Value) (c2 : List Value), cs = tcells ⟨k, n, s, ps, d, ks⟩ vp vi vk ++ c2 ∧ (∀ g, S1 g → S g) ∧ (∀ g, S2 g → S g) ∧ (∀ g, S1 g → S2 g → False) ∧ TmOwn w D S1 ⟨k, n, s, ps, d, ks⟩ vp vi vk ∧ TAt w D r S2 c2 := by
  constructor
  · rintro ⟨S1, S2, vp, vi, vk, c1, c2, h1, h2, h3, h4, ⟨h5, h6, h7, h8, h9, h10⟩, h11⟩
    exact ⟨S1, S2, vp, vi, vk, c2, h1, h2, h3, h4, ⟨c1, h5, h6, h7, h8, h9, h10⟩, h11⟩
  · rintro ⟨S1, S2, vp, vi, vk, c2, h1, h2, h3, h4, ⟨c1, h5, h6, h7, h8, h9, h10⟩, h11⟩
    exact ⟨S1, S2, vp, vi, vk, c1, c2, h1, h2, h3, h4, ⟨h5, h6, h7, h8, h9, h10⟩, h11⟩
/-- more blocks; of those that are none yet nothing is said -/
theorem TAt.mono : ∀ {t : Tl} {S S' : Nat → Prop} {cs : List Value}, (∀ g, g < w.heap.size → S g → S' g) → TAt w D t S cs → TAt w D t S' cs
  | .nil, _, _, _, _, h => h
  | .cons _ _ _ _ _ _ _, _, _, _, hS, ⟨S1, S2, vp, vi, vk, c1, c2, h1, h2, h3, h4, ⟨h5, h6, h7, h8, h9, h10⟩, h11⟩ =>
    ⟨fun g => S1 g ∧ g < w.heap.size, fun g => S2 g ∧ g < w.heap.size, vp, vi, vk, c1, c2, h1, fun g hg => hS g hg.2 (h2 g hg.1), fun g hg => hS g hg.2 (h3 g hg.1), fun g ha hb => h4 g ha.1 hb.1,
      ⟨h5, fun g hg => ⟨h6 g hg, (h5.lt g hg).2⟩, h7, h8, fun g hg => ⟨h9 g hg, (World.ownsRow.lt h8 g hg).2⟩, TAt.mono (fun _ hg hs => ⟨⟨hs.1, hg⟩, hs.2⟩) h10⟩, TAt.mono (fun _ hg hs => ⟨hs, hg⟩) h11⟩
theorem TAt.turns : ∀ {t : Tl} {S : Nat → Prop} {cs : List Value}, Turns X w w' → (∀ g, g < w.heap.size → S g → ¬ X g) → (∀ g, g < w.heap.size → D g → ¬ X g) → TAt w D t S cs → TAt w' D t S cs
  | .nil, _, _, _, _, _, h => h
  | .cons _ _ _ _ _ _ _, _, _, hk, hX, hD, ⟨S1, S2, vp, vi, vk, c1, c2, h1, h2, h3, h4, ⟨h5, h6, h7, h8, h9, h10⟩, h11⟩ =>
    ⟨S1, S2, vp, vi, vk, c1, c2, h1, h2, h3, h4,
      ⟨h5.turns hk (fun g hg => hX g (h5.lt g hg).2 (h2 g (h6 g hg))), h6, h7.agr (Agr.of_turns hk hD), own_turns h8 hk (fun g hg => hX g (World.ownsRow.lt h8 g hg).2 (h2 g (h9 g hg))), h9,
        TAt.turns hk (fun g hg hs => hX g hg (h2 g hs.1)) hD h10⟩, TAt.turns hk (fun g hg hs => hX g hg (h3 g hs)) hD h11⟩
theorem TAt.dmono : ∀ {t : Tl} {S : Nat → Prop} {cs : List Value}, (∀ g, g < w.heap.size → D g → D' g) → TAt w D t S cs → TAt w D' t S cs
  | .nil, _, _, _, h => h
  | .cons _ _ _ _ _ _ _, _, _, hD, ⟨S1, S2, vp, vi, vk, c1, c2, h1, h2, h3, h4, ⟨h5, h6, h7, h8, h9, h10⟩, h11⟩ =>
    ⟨S1, S2, vp, vi, vk, c1, c2, h1, h2, h3, h4, ⟨h5, h6, h7.mono hD, h8, h9, TAt.dmono hD h10⟩, TAt.dmono hD h11⟩
theorem TAt.app : ∀ {t e : Tl} {S : Nat → Prop} {cs es : List Value}, TAt w D t S cs → TAt w D e S2 es → (∀ g, g < w.heap.size → S g → S2 g → False) → TAt w D (t.app e) (fun g => S g ∨ S2 g) (cs ++ es)
  | .nil, e, S, cs, es, h, k, _ => by rw [show cs = [] from h]; exact TAt.mono (fun g _ hs => .inr hs) k
  | .cons _ _ _ _ _ _ r, e, S, cs, es, ⟨S1, S3, vp, vi, vk, c1, c2, h1, h2, h3, h4, ⟨h5, h6, h7, h8, h9, h10⟩, h11⟩, k, hd => by
    refine ⟨fun g => S1 g ∧ g < w.heap.size, fun g => S3 g ∨ S2 g, vp, vi, vk, c1, c2 ++ es, by rw [h1, List.append_assoc], fun g hg => .inl (h2 g hg.1), fun g hg => hg.imp (h3 g) id, fun g ha hb => ?_,
      ⟨h5, fun g hg => ⟨h6 g hg, (h5.lt g hg).2⟩, h7, h8, fun g hg => ⟨h9 g hg, (World.ownsRow.lt h8 g hg).2⟩, TAt.mono (fun g hg hs => ⟨⟨hs.1, hg⟩, hs.2⟩) h10⟩, TAt.app h11 k (fun g hg ha hb => hd g hg (h3 g ha) hb)⟩
    rcases hb with hb | hb
    · exact h4 g ha.1 hb
    · exact hd g ha.2 (h2 g ha.1) hb
theorem TAt.len : ∀ {t : Tl} {S : Nat → Prop} {cs : List Value}, TAt w D t S cs → cs.length = t.len * 9
  | .nil, _, cs, h => by rw [show cs = [] from h]; simp [Tl.len]
  | .cons k n s ps d ks r, S, cs, ⟨S1, S2, vp, vi, vk, c1, c2, h1, h2, h3, h4, h5, h11⟩ => by
    have := TAt.len h11
    rw [h1, List.length_append, this, Tl.len]
    simp [tcells]; omega
theorem TmOwn.at_ {t : Tm} {vp vi vk : Value} (h : TmOwn w D S t vp vi vk) : TAt w D (.one t) S (tcells t vp vi vk) := by
  obtain ⟨c1, h5, h6, h7, h8, h9, h10⟩ := h
  exact ⟨S, fun _ => False, vp, vi, vk, c1, [], by simp, fun _ h => h, fun _ h => h.elim, fun _ _ h => h, ⟨h5, h6, h7, h8, h9, h10⟩, rfl⟩
theorem TmOwn.mono {t : Tm} {vp vi vk : Value} (h : TmOwn w D S t vp vi vk) (hS : ∀ g, g < w.heap.size → S g → S' g) : TmOwn w D S' t vp vi vk := by
  obtain ⟨c1, h5, h6, h7, h8, h9, h10⟩ := h
  exact ⟨c1, h5, fun g hg => hS g (h5.lt g hg).2 (h6 g hg), h7, h8, fun g hg => hS g (World.ownsRow.lt h8 g hg).2 (h9 g hg), TAt.mono (fun g hg hs => ⟨hS g hg hs.1, hs.2⟩) h10⟩
theorem TmOwn.dmono {t : Tm} {vp vi vk : Value} (h : TmOwn w D S t vp vi vk) (hD : ∀ g, g < w.heap.size → D g → D' g) : TmOwn w D' S t vp vi vk := by
  obtain ⟨c1, h5, h6, h7, h8, h9, h10⟩ := h
  exact ⟨c1, h5, h6, h7.mono hD, h8, h9, TAt.dmono hD h10⟩
theorem TmOwn.turns {t : Tm} {vp vi vk : Value} (h : TmOwn w D S t vp vi vk) (hk : Turns X w w') (hX : ∀ g, g < w.heap.size → S g → ¬ X g) (hD : ∀ g, g < w.heap.size → D g → ¬ X g) : TmOwn w' D S t vp vi vk := by
  obtain ⟨c1, h5, h6, h7, h8, h9, h10⟩ := h
  exact ⟨c1, h5.turns hk (fun g hg => hX g (h5.lt g hg).2 (h6 g hg)), h6, h7.agr (Agr.of_turns hk hD), own_turns h8 hk (fun g hg => hX g (World.ownsRow.lt h8 g hg).2 (h9 g hg)), h9, TAt.turns hk (fun g hg hs => hX g hg hs.1) hD h10⟩
theorem TmOwn.below {t : Tm} {vp vi vk : Value} (h : TmOwn w D S t vp vi vk) (k : Below w.heap.size w w') : TmOwn w' D S t vp vi vk := h.turns (Turns.of_below k (fun _ => False)) (fun _ _ _ h => h) (fun _ _ _ h => h)
theorem TOwn.turns {t : Tl} (h : TOwn w D S v t) (hk : Turns X w w') (hX : ∀ g, g < w.heap.size → S g → ¬ X g) (hD : ∀ g, g < w.heap.size → D g → ¬ X g) : TOwn w' D S v t := by
  obtain ⟨cs, h1, h2, h3⟩ := h
  exact ⟨cs, own_turns h1 hk (fun g hg => hX g (World.ownsRow.lt h1 g hg).2 (h2 g hg)), h2, TAt.turns hk (fun g hg hs => hX g hg hs.1) hD h3⟩
theorem TOwn.below {t : Tl} (h : TOwn w D S v t) (k : Below w.heap.size w w') : TOwn w' D S v t := h.turns (Turns.of_below k (fun _ => False)) (fun _ _ _ h => h) (fun _ _ _ h => h)
theorem TOwn.mono {t : Tl} (h : TOwn w D S v t) (hS : ∀ g, g < w.heap.size → S g → S' g) : TOwn w D S' v t := by
  obtain ⟨cs, h1, h2, h3⟩ := h
  exact ⟨cs, h1, fun g hg => hS g (World.ownsRow.lt h1 g hg).2 (h2 g hg), TAt.mono (fun g hg hs => ⟨hS g hg hs.1, hs.2⟩) h3⟩
theorem TOwn.lt {t : Tl} (h : TOwn w D S v t) : ∀ g, v.ownBlock = some g → S g ∧ g < w.heap.size := by
  obtain ⟨cs, h1, h2, _⟩ := h
  exact fun g hg => ⟨h2 g hg, (World.ownsRow.lt h1 g hg).2⟩
theorem TOwn.read {t : Tl} (h : TOwn w D S v t) : ∃ A c, v = .slice A t.len c := by
  obtain ⟨cs, h1, _⟩ := h
  obtain ⟨A, c, e, _⟩ := own_read h1
  exact ⟨A, c, e⟩
theorem TOwn.nil (w : World) (D S : Nat → Prop) : TOwn w D S (.slice none 0 0) .nil := ⟨[], own_none w 0 _ 9, (fun g hg => by cases hg), rfl⟩
theorem TmOwn.kids {t : Tm} {vp vi vk : Value} (h : TmOwn w D S t vp vi vk) : TOwn w D S vk t.ks := by
  obtain ⟨c1, h5, h6, h7, h8, h9, h10⟩ := h
  exact ⟨c1, h8, h9, TAt.mono (fun g _ hs => ⟨hs.1, hs.2.1⟩) h10⟩
/-- its cells are all of one cell -/
theorem Own.one' {l : List Int} {B : Nat} (h : Own w B v l) : v.oneCell' = true := by
  rcases h.2 with ⟨rfl, _⟩ | ⟨g, cap, cur, rfl, _⟩ <;> rfl
theorem In.one' {d : RM.Dl} (h : In w v d) : v.oneCell' = true := by
  obtain ⟨A, c, rfl⟩ := h.read; rfl
theorem row_one' {e : TypeId} {B sz n : Nat} {cs : List Value} (h : w.ownsRow B e sz v n cs) : v.oneCell' = true := by
  rcases h.2 with ⟨rfl, _⟩ | ⟨g, cap, cur, rfl, _⟩ <;> rfl
theorem TAt.one : ∀ {t : Tl} {S : Nat → Prop} {cs : List Value}, TAt w D t S cs → ∀ u ∈ cs, u.oneCell' = true
  | .nil, _, cs, h => by rw [show cs = [] from h]; simp
  | .cons k n s ps d ks r, S, cs, ⟨S1, S2, vp, vi, vk, c1, c2, h1, h2, h3, h4, ⟨h5, h6, h7, h8, h9, h10⟩, h11⟩ => by
    intro u hu
    rw [h1] at hu
    rcases List.mem_append.1 hu with hu | hu
    · simp only [tcells, List.mem_cons, List.not_mem_nil, or_false] at hu
      rcases hu with rfl | rfl | rfl | rfl | rfl | rfl | rfl | rfl | rfl
      all_goals first | rfl | exact h5.one' | exact h7.in_.one' | exact row_one' h8
    · exact TAt.one h11 u hu

/-- one's own ints can be read -/
theorem Own.pin {l : List Int} {B : Nat} (h : Own w B v l) : PIn w v l := by
  have hlen : l.length ≤ 9223372036854775807 := by
    rcases h.2 with ⟨_, hn⟩ | ⟨g, cap, cur, _, _, _, hc, hm, _⟩
    · omega
    · unfold maxLen at hm; omega
  obtain ⟨A, c, rfl, hr⟩ := h.read
  by_cases h0 : 0 < l.length
  · obtain ⟨g, hg, _, hlt, _⟩ := hr 0 h0
    refine ⟨A, c, rfl, hlen, g, 0, fun _ => ⟨hg, hlt⟩, fun j x hx => ?_⟩
    have hj := (List.getElem?_eq_some_iff.1 hx).1
    obtain ⟨g', hg', _, _, h'⟩ := hr j hj
    rw [hg] at hg'
    cases hg'
    rw [Nat.zero_add, h', List.getD_eq_getElem?_getD, hx]; rfl
  · have : l = [] := List.eq_nil_of_length_eq_zero (by omega)
    subst this
    exact ⟨A, c, rfl, hlen, 0, 0, fun h => absurd h (by simp), fun j x hx => by simp at hx⟩
theorem TInAt.of_own : ∀ {t : Tl} {S : Nat → Prop} {cs : List Value} {b o : Nat}, TAt w D t S cs → b < w.heap.size → (∀ j, j < cs.length → w.cell? ⟨b, o + j, none⟩ = cs[j]?) → TInAt w t b o
  | .nil, _, _, _, _, _, _, _ => trivial
  | .cons k n s ps d ks r, S, cs, b, o, ⟨S1, S2, vp, vi, vk, c1, c2, h1, h2, h3, h4, ⟨h5, h6, h7, h8, h9, h10⟩, h11⟩, hb, hc => by
    subst h1
    obtain ⟨A, c, rfl, hr⟩ := own_read h8
    have hl : c1.length = ks.len * 9 := h8.1
    have q : ∀ j, j < 9 → w.cell? ⟨b, o + j, none⟩ = (tcells ⟨k, n, s, ps, d, ks⟩ vp vi (.slice A ks.len c))[j]? := fun j hj => by
      rw [hc j (by simp [tcells]; omega), List.getElem?_append_left (by simp [tcells]; omega)]
    refine ⟨hb, q 0 (by omega), q 1 (by omega), q 2 (by omega), ⟨vp, q 3 (by omega), h5.pin⟩, q 4 (by omega), q 5 (by omega), q 6 (by omega), ⟨vi, q 7 (by omega), h7.in_⟩, ⟨A, c, q 8 (by omega), own_len h8, ?_⟩, TInAt.of_own h11 hb ?_⟩
    · by_cases h0 : 0 < ks.len
      · obtain ⟨g, hg, _, hlt, _⟩ := hr 0 (by omega)
        refine ⟨g, 0, fun _ => hg, TInAt.of_own h10 hlt fun j hj => ?_⟩
        obtain ⟨g', hg', _, _, h'⟩ := hr j (by omega)
        rw [hg] at hg'
        cases hg'
        rw [Nat.zero_add]
        exact h'
      · have : ks = .nil := by
          cases ks with
          | nil => rfl
          | cons => simp [Tl.len] at h0
        subst this
        exact ⟨0, 0, fun h => absurd h (by simp [Tl.len]), trivial⟩
    · intro j hj
      have := hc (9 + j) (by simp [tcells]; omega)
      rw [show o + 9 + j = o + (9 + j) by omega, this, List.getElem?_append_right (by simp [tcells])]
      simp [tcells]
theorem TOwn.tin {t : Tl} (h : TOwn w D S v t) : TIn w v t := by
  obtain ⟨cs, h1, h2, h3⟩ := h
  have hlen := own_len h1
  obtain ⟨A, c, rfl, hr⟩ := own_read h1
  have hl : cs.length = t.len * 9 := h1.1
  by_cases h0 : 0 < t.len
  · obtain ⟨g, hg, _, hlt, _⟩ := hr 0 (by omega)
    refine ⟨A, c, rfl, hlen, g, 0, fun _ => hg, TInAt.of_own h3 hlt fun j hj => ?_⟩
    obtain ⟨g', hg', _, _, h'⟩ := hr j (by omega)
    rw [hg] at hg'
    cases hg'
    rw [Nat.zero_add]
    exact h'
  · have : t = .nil := by
      cases t with
      | nil => rfl
      | cons => simp [Tl.len] at h0
    subst this
    exact ⟨A, c, rfl, hlen, 0, 0, fun h => absurd h (by simp [Tl.len]), trivial⟩
theorem TmOwn.tmin {t : Tm} {vp vi vk : Value} (h : TmOwn w D S t vp vi vk) : TmIn w t vp vi vk := by
  have hk := h.kids.tin
  obtain ⟨c1, h5, h6, h7, h8, h9, h10⟩ := h
  exact ⟨h5.pin, h7.in_, hk⟩
end
end Go.Proofs.YtpiekdcbjkgipaaGreatDoor

/- Package term: each, whatever it hands the parts to; Parts. -/
namespace Go.Proofs.YtpiekdcbjkgipaaGreatDoor
open Go.ChangeShapes Go.WideShapes Go.ChangeAt Go.RowKit Go.Deep
open TM (Tl Tm)

namespace TM
section
variable {σ : Type} (step : σ → Tm → σ × Bool)
/-- what becomes of a state where some terms are visited, from the front, as long as they may be -/
def ea : Tl → σ → σ × Bool
  | .nil, s => (s, true)
  | .cons k n x ps d ks r, s => if (step s ⟨k, n, x, ps, d, ks⟩).2 then (if (ea ks (step s ⟨k, n, x, ps, d, ks⟩).1).2 then ea r (ea ks (step s ⟨k, n, x, ps, d, ks⟩).1).1 else ea ks (step s ⟨k, n, x, ps, d, ks⟩).1) else step s ⟨k, n, x, ps, d, ks⟩
def ea1 (t : Tm) (s : σ) : σ × Bool := if (step s t).2 then ea step t.ks (step s t).1 else step s t
theorem ea_at {d : Tl} {i : Nat} {x : Tm} (h : d.at_ i = some x) (s : σ) : ea step (d.dr i) s = if (ea1 step x s).2 then ea step (d.dr (i + 1)) (ea1 step x s).1 else ea1 step x s := by
  rw [Tl.dr_at d i x h, ea]
  unfold ea1
  by_cases h1 : (step s x).2 = true
  · rw [if_pos h1, if_pos h1]
  · rw [if_neg h1, if_neg h1, if_neg h1]
end
end TM

/-- what lies as a term's box lies so still -/
def KeepsT (w w' : World) : Prop := w.heap.size ≤ w'.heap.size ∧ ∀ b cs, Lies w b 28 cs → Lies w' b 28 cs
theorem KeepsT.of_below {w w' : World} (h : Below w.heap.size w w') : KeepsT w w' := ⟨h.size, fun _ _ hl => hl.below h hl.lt⟩
theorem KeepsT.trans {w w' w2 : World} (h : KeepsT w w') (k : KeepsT w' w2) : KeepsT w w2 := ⟨Nat.le_trans h.1 k.1, fun b cs hl => k.2 b cs (h.2 b cs hl)⟩
section
variable {σ : Type} (P : σ → World → Prop) (Q : σ → Nat → Prop) (w0 : World) (step : σ → Tm → σ × Bool) (g : Nat) (lb : Array Value)
/-- what is owed of a function that the parts are handed to -/
def VisOk : Prop := ∀ (t : Tm) (vp vi vk : Value) (s : σ) (m : Nat) (w : World), Below w0.heap.size w0 w → TmIn w t vp vi vk → P s w → Q s (m + 1) →
  Calls Tryz.prog g (#[tmv t vp vi vk] ++ lb) w fun e w' => e = .returned (.bool (step s t).2) ∧ P (step s t).1 w' ∧ Below w0.heap.size w0 w' ∧ KeepsT w w'
def EachN (m : Nat) (r : σ × Bool) (w : World) (e : Ending) (w' : World) : Prop := e = .returned (.bool r.2) ∧ P r.1 w' ∧ (r.2 = true → Q r.1 m) ∧ Below w0.heap.size w0 w' ∧ KeepsT w w'
def EachOk (t : Tm) : Prop := ∀ (w : World) (s : σ) (m : Nat) (vp vi vk up ui uk : Value), Below w0.heap.size w0 w → TmIn w0 t up ui uk → vp = up → vi = ui → vk = uk → P s w → Q s (TM.sz t.ks + 1 + m) →
  Calls Tryz.prog 29 #[tmv t vp vi vk, .func (.func g) #[] lb] w (EachN P Q w0 m (TM.ea1 step t s) w)
set_option maxRecDepth 100000 in
set_option maxHeartbeats 4000000 in
theorem each_step (eg : ∀ args w, (callFunc g args).run Tryz.prog w = .ok (.enter g args) w) (hP : ∀ s w w', P s w → Below w.heap.size w w' → P s w') (hQ : ∀ s t m, (step s t).2 = true → Q s (m + 1) → Q (step s t).1 m) (hV : VisOk P Q w0 step g lb)
    (k n : Int) (s : List UInt8) (ps : List Int) (d : RM.Dm) (ks : Tl) (hR : ∀ i x, ks.at_ i = some x → EachOk P Q w0 step g lb x) : EachOk P Q w0 step g lb ⟨k, n, s, ps, d, ks⟩ := by
  intro w st m vp vi vk up ui uk hb hT rfl rfl rfl hst hq
  obtain ⟨P3, p3, rfl⟩ := hT.p.read
  obtain ⟨I7, q7, rfl⟩ := hT.d.read
  obtain ⟨A1, c1, rfl⟩ := hT.k.read
  have hlen := hT.k.len
  have hTk := hT.k
  simp only at hlen hTk hq ⊢
  have hT' := Lib.hid hT
  obtain ⟨N, hN⟩ : ∃ N, ks.len = N := ⟨_, rfl⟩
  rw [hN] at hlen hTk ⊢
  have hN' := Lib.hid hN
  have hR' := Lib.hid hR
  have hP' := Lib.hid hP
  have hQ' := Lib.hid hQ
  have hV' := Lib.hid (fun (w' : World) (hb' : Below w0.heap.size w0 w') (h1 : P st w') => hV ⟨k, n, s, ps, d, ks⟩ (.slice P3 ps.length p3) (.slice I7 d.is.len q7) (.slice A1 N c1) st (TM.sz ks + m) w' hb' (by rw [← hN'.out]; exact hT'.out.below hb') h1 (by rwa [show TM.sz ks + m + 1 = TM.sz ks + 1 + m by omega]))
  have hq1 := fun h1 => hQ st ⟨k, n, s, ps, d, ks⟩ (TM.sz ks + m) h1 (by rwa [show TM.sz ks + m + 1 = TM.sz ks + 1 + m by omega])
  obtain ⟨F, hF⟩ : ∃ F, TM.ea1 step ⟨k, n, s, ps, d, ks⟩ st = F := ⟨_, rfl⟩
  rw [hF]
  have hF' := Lib.hid hF
  obtain ⟨⟨s1, b1⟩, hF0⟩ : ∃ F0, step st ⟨k, n, s, ps, d, ks⟩ = F0 := ⟨_, rfl⟩
  rw [hF0] at hV' hq1
  have hq1' := Lib.hid hq1
  have hF0' := Lib.hid hF0
  obtain ⟨L3, hL3⟩ : ∃ x, ps.length = x := ⟨_, rfl⟩
  obtain ⟨L7, hL7⟩ : ∃ x, d.is.len = x := ⟨_, rfl⟩
  unfold tmv at hV' ⊢
  simp only at hV' ⊢
  rw [hL3, hL7] at hV' ⊢
  have hL := Lies.made w 28 #[.int .i64 k, .int .i64 n, .string ⟨s.toArray⟩, .slice P3 L3 p3, .int .i64 d.k, .int .i64 d.n, .string ⟨d.s.toArray⟩, .slice I7 L7 q7, .slice A1 N c1]
  have hb1 : Below w0.heap.size w0 (w.alloc (.cells #[.int .i64 k, .int .i64 n, .string ⟨s.toArray⟩, .slice P3 L3 p3, .int .i64 d.k, .int .i64 d.n, .string ⟨d.s.toArray⟩, .slice I7 L7 q7, .slice A1 N c1] 28)) := hb.alloc hb.size _
  have hst1 := hP _ _ _ hst (Below.alloc (Below.refl _ w) (Nat.le_refl _) (.cells #[.int .i64 k, .int .i64 n, .string ⟨s.toArray⟩, .slice P3 L3 p3, .int .i64 d.k, .int .i64 d.n, .string ⟨d.s.toArray⟩, .slice I7 L7 q7, .slice A1 N c1] 28))
  have hst1' := Lib.hid hst1
  have hw := hb.size
  have hw' := Lib.hid hw
  clear hT hN hR hP hQ hV hq hq1 hF hF0 hL3 hL7 hst hst1 hw
  cases b1
  · have hE : F = (s1, false) := by
      rw [← hF'.out, TM.ea1, hF0'.out]
      simp
    subst hE
    go_enter Tryz.func29, Tryz.ntmps29
    go_wp2_with (go_at_fn g; refine (hV'.out _ hb1 hst1'.out).mono ?_; rintro e w3 ⟨rfl, hs3, hb3, hk3⟩)
    go_ret
    exact ⟨rfl, hs3, fun h => by simp at h, hb3, (KeepsT.of_below (Below.alloc (Below.refl _ w) (Nat.le_refl _) _)).trans hk3⟩
  · have hE : TM.ea step ks s1 = F := by
      rw [← hF'.out, TM.ea1, hF0'.out]
      simp
    have hE' := Lib.hid hE
    clear hE
    go_enter Tryz.func29, Tryz.ntmps29
    go_wp2_with (
      go_at_fn g
      refine (hV'.out _ hb1 hst1'.out).mono ?_
      rintro e w3 ⟨rfl, hs3, hb3, hk3⟩
      have hM := hk3.2 _ _ hL
      have y8 : w3.cell? ⟨w.heap.size, 8, none⟩ = some (.slice A1 N c1) := hM.cell 8
      have hk4 := (KeepsT.of_below (Below.alloc (Below.refl _ w) (Nat.le_refl _) (.cells #[.int .i64 k, .int .i64 n, .string ⟨s.toArray⟩, .slice P3 L3 p3, .int .i64 d.k, .int .i64 d.n, .string ⟨d.s.toArray⟩, .slice I7 L7 q7, .slice A1 N c1] 28))).trans hk3)
    go_loopw [14] (fun i wr => ∃ (j : Nat) (sj : σ), j ≤ N ∧ i = .int .i64 j ∧ Hid (TM.ea step (ks.dr j) sj = F) ∧ P sj wr ∧ Q sj (TM.sz (ks.dr j) + m) ∧ Below w0.heap.size w0 wr ∧ KeepsT w wr) (fun i _ => N - (intOf i).toNat)
    case atStart => exact ⟨0, s1, Nat.zero_le _, rfl, Lib.hid (by rw [Tl.dr_zero]; exact hE'.out), hs3, by rw [Tl.dr_zero]; exact by simpa using hq1'.out, hb3, hk4⟩
    case round =>
      obtain ⟨j, sj, hj, rfl, hEj, hsj, hqj, hbj, hkj⟩ := hrel
      have hqj' := Lib.hid hqj
      clear hL hb1 hst1' hV' y8 hM hk3 hk4 hb3 hs3 hqj
      by_cases hlt : j < N
      · obtain ⟨x, hx⟩ := ks.at_some j (by rw [hN'.out]; exact hlt)
        obtain ⟨b, o, P5, p5, I5, q5, K5, r5, rfl, hb0, p0, p1, p2, pp, p4, p55, p6, pi, pk, hT5⟩ := hTk.at_ hx
        have ce : ∀ o, wr.cell? ⟨b, o, none⟩ = w0.cell? ⟨b, o, none⟩ := fun o => hbj.cell (p := ⟨b, o, none⟩) hb0
        rw [← ce] at p0 p1 p2 pp p4 p55 p6 pi pk
        have hxs := TM.sz_at hx
        have hxe := TM.ea_at step hx sj
        have hR5 := Lib.hid (fun (w' : World) (hb' : Below w0.heap.size w0 w') (h1 : P sj w') => hR'.out j x hx w' sj (TM.sz (ks.dr (j + 1)) + m) _ _ _ _ _ _ hb' hT5 rfl rfl rfl h1 (by have := hqj'.out; rw [hxs] at this; rwa [show TM.sz x.ks + 1 + (TM.sz (ks.dr (j + 1)) + m) = TM.sz x.ks + 1 + TM.sz (ks.dr (j + 1)) + m by omega]))
        obtain ⟨⟨s6, b6⟩, hF6⟩ : ∃ F0, TM.ea1 step x sj = F0 := ⟨_, rfl⟩
        rw [hEj.out, hF6] at hxe
        rw [hF6] at hR5
        unfold tmv at hR5
        have hxe' := Lib.hid hxe
        have hP6 := Lib.hid (fun cs => hP'.out _ _ _ hsj (Below.alloc (Below.refl _ wr) (Nat.le_refl _) cs))
        clear hF6 hxe hxs hT5 hx ce
        cases b6
        · have hE6 : F = (s6, false) := by rw [hxe'.out]; simp
          subst hE6
          go_wp2_with (
            go_at_call 29
            refine (hR5.out _ (hbj.alloc hbj.size _) (hP6.out _)).mono ?_
            rintro e w7 ⟨rfl, hs7, -, hb7, hk7⟩)
          go_ret
          exact ⟨rfl, hs7, fun h => by simp at h, hb7, hkj.trans ((KeepsT.of_below (Below.alloc (Below.refl _ wr) (Nat.le_refl _) _)).trans hk7)⟩
        · go_wp2_with (
            go_at_call 29
            refine (hR5.out _ (hbj.alloc hbj.size _) (hP6.out _)).mono ?_
            rintro e w7 ⟨rfl, hs7, hq7, hb7, hk7⟩
            have hk8 := hkj.trans ((KeepsT.of_below (Below.alloc (Below.refl _ wr) (Nat.le_refl _) _)).trans hk7)
            have hq7' := Lib.hid (hq7 rfl)
            clear hq7 hk7)
          go_roundw
          case rel => exact ⟨j + 1, s6, by omega, by go_num, Lib.hid (by rw [hxe'.out]; simp), hs7, hq7'.out, hb7, hk8⟩
          case measure => simp [intOf]; omega
      · obtain rfl : j = N := by omega
        have hE6 : F = (sj, true) := by
          rw [← hEj.out, Tl.dr_end ks j (by rw [hN'.out]; exact Nat.le_refl _)]; rfl
        subst hE6
        go_wp2_with fail
        go_ret
        exact ⟨rfl, hsj, fun _ => by
          have := hqj'.out
          rwa [Tl.dr_end ks j (by rw [hN'.out]; exact Nat.le_refl _), TM.sz, Nat.zero_add] at this, hbj, hkj⟩
theorem each_any (eg : ∀ args w, (callFunc g args).run Tryz.prog w = .ok (.enter g args) w) (hP : ∀ s w w', P s w → Below w.heap.size w w' → P s w') (hQ : ∀ s t m, (step s t).2 = true → Q s (m + 1) → Q (step s t).1 m) (hV : VisOk P Q w0 step g lb) (t : Tm) : EachOk P Q w0 step g lb t :=
  Tl.all_one _ (each_step P Q w0 step g lb eg hP hQ hV) t
end

/-! ### Parts -/
namespace TM
def cs (n : Nat) (_ : Tm) : Nat × Bool := (n + 1, decide (n + 1 < 5000))
theorem ea_cs : ∀ (d : Tl) (n : Nat), n < 5000 → (ea cs d n).1 = min (n + sz d) 5000 ∧ ((ea cs d n).2 = true ↔ n + sz d < 5000)
  | .nil, n, h => by
    simp only [ea, sz, Nat.add_zero]
    exact ⟨by omega, by simp [h]⟩
  | .cons k m x ps d ks r, n, h => by
    rw [ea, show cs n ⟨k, m, x, ps, d, ks⟩ = (n + 1, decide (n + 1 < 5000)) from rfl]
    simp only [decide_eq_true_eq, sz]
    by_cases h1 : n + 1 < 5000
    · rw [if_pos h1]
      obtain ⟨a1, a2⟩ := ea_cs ks (n + 1) h1
      by_cases h2 : n + 1 + sz ks < 5000
      · have a3 : (ea cs ks (n + 1)).1 = n + 1 + sz ks := by rw [a1]; omega
        obtain ⟨b1, b2⟩ := ea_cs r _ h2
        rw [if_pos (a2.2 h2), a3, b1, b2]
        exact ⟨by omega, by omega⟩
      · rw [if_neg (fun h => h2 (a2.1 h)), a1, a2]
        exact ⟨by omega, by omega⟩
    · rw [if_neg h1]
      exact ⟨by simp only; omega, by simp; omega⟩
theorem ea1_cs (t : Tm) : (ea1 cs t 0).1 = min (sz t.ks + 1) 5000 := by
  unfold ea1
  rw [if_pos (by simp [cs])]
  show (ea cs t.ks 1).1 = _
  rw [(ea_cs t.ks 1 (by omega)).1]
  omega
end TM
set_option maxRecDepth 100000 in
theorem parts_vis (w0 : World) (c : Nat) (hc : w0.heap.size ≤ c) :
    VisOk (fun n w => Lies w c 3 [.int .i64 (n : Nat)]) (fun n _ => n < 5000) w0 TM.cs 30 #[.pointer (some ⟨c, 0, none⟩)] := by
  intro t vp vi vk n m w hb _ hP hn
  unfold tmv
  obtain ⟨N, hN⟩ : ∃ N : Int, (n : Int) = N := ⟨_, rfl⟩
  simp only [hN] at hP
  have h0 : 0 ≤ N := by omega
  have h1 : N < 5000 := by omega
  have hsz := hb.size
  have hL := hP.alloc (.cells #[.int .i64 t.k, .int .i64 t.n, .string ⟨t.s.toArray⟩, vp, .int .i64 t.d.k, .int .i64 t.d.n, .string ⟨t.d.s.toArray⟩, vi, vk] 28)
  have q0 : (w.alloc (.cells #[.int .i64 t.k, .int .i64 t.n, .string ⟨t.s.toArray⟩, vp, .int .i64 t.d.k, .int .i64 t.d.n, .string ⟨t.d.s.toArray⟩, vi, vk] 28)).cell? ⟨c, 0, none⟩ = some (.int .i64 N) := hL.cell 0
  have f0 := hL.free 0
  have hL2 := hL.stored 0 (.int .i64 (N + 1))
  have q1 : ((w.alloc (.cells #[.int .i64 t.k, .int .i64 t.n, .string ⟨t.s.toArray⟩, vp, .int .i64 t.d.k, .int .i64 t.d.n, .string ⟨t.d.s.toArray⟩, vi, vk] 28)).setCell ⟨c, 0, none⟩ (.int .i64 (N + 1))).cell? ⟨c, 0, none⟩ = some (.int .i64 (N + 1)) := hL2.cell 0
  have hk : ∀ b cs, Lies w b 28 cs → b ≠ c := fun b cs h => h.apart hP (by decide)
  have hk' := Lib.hid hk
  have hN' := Lib.hid hN
  have hL2' : Hid (Lies _ c 3 [.int .i64 (N + 1)]) := Lib.hid hL2
  have hb2 := (hb.alloc hb.size (.cells #[.int .i64 t.k, .int .i64 t.n, .string ⟨t.s.toArray⟩, vp, .int .i64 t.d.k, .int .i64 t.d.n, .string ⟨t.d.s.toArray⟩, vi, vk] 28)).setCell (p := ⟨c, 0, none⟩) hc (.int .i64 (N + 1))
  clear hN hk hL2 hL hP
  have e2 : decide (N + 1 < 5000) = decide (n + 1 < 5000) := by rw [decide_eq_decide, ← hN'.out]; omega
  have e2' := Lib.hid e2
  clear e2
  go_enter Tryz.func30, Tryz.ntmps30
  go_wp2_with fail
  go_ret
  refine ⟨?_, ?_, hb2, by simp, fun b cs hl => ?_⟩
  · simp only [TM.cs]
    rw [← e2'.out]
    rfl
  · show Lies _ c 3 [.int .i64 ((n + 1 : Nat) : Int)]
    rw [show ((n + 1 : Nat) : Int) = N + 1 by rw [← hN'.out]; simp]
    exact hL2'.out
  · exact (hl.alloc _).far (p := ⟨c, 0, none⟩) (hk'.out b cs hl) _
set_option maxRecDepth 100000 in
theorem parts_any (t : Tm) (vp vi vk : Value) (w : World) (h : TmIn w t vp vi vk) :
    Calls Tryz.prog 11 #[tmv t vp vi vk] w fun e w' => e = .returned (.int .i64 ((min (TM.sz t.ks + 1) 5000 : Nat) : Int)) ∧ Below w.heap.size w w' := by
  obtain ⟨X, hX⟩ : ∃ X, (tmv t vp vi vk) = X := ⟨_, rfl⟩
  obtain ⟨Y, hY⟩ : ∃ Y, min (TM.sz t.ks + 1) 5000 = Y := ⟨_, rfl⟩
  have hE := Lib.hid (fun (w' : World) (hb : Below w.heap.size w w') (c : Nat) (hc : w.heap.size ≤ c) (hl : Lies w' c 3 [.int .i64 ((0 : Nat) : Int)]) =>
    each_any (fun n w => Lies w c 3 [.int .i64 (n : Nat)]) (fun n _ => n < 5000) w TM.cs 30 #[.pointer (some ⟨c, 0, none⟩)] (enters_of Tryz.func30 (by kernel_rfl) rfl)
      (fun n w w' h k => h.below k h.lt) (fun n t m h _ => by simpa [TM.cs] using h) (parts_vis w c hc) t w' 0 0 vp vi vk vp vi vk hb h rfl rfl rfl hl (by omega))
  have e1 := TM.ea1_cs t
  rw [hY] at e1 ⊢
  unfold EachN at hE
  simp only [e1] at hE
  unfold tmv at hE ⊢
  clear e1 hY hX
  have hL1 := Lies.made w 28 #[.int .i64 t.k, .int .i64 t.n, .string ⟨t.s.toArray⟩, vp, .int .i64 t.d.k, .int .i64 t.d.n, .string ⟨t.d.s.toArray⟩, vi, vk]
  have hz1 : (w.alloc (.cells #[.int .i64 t.k, .int .i64 t.n, .string ⟨t.s.toArray⟩, vp, .int .i64 t.d.k, .int .i64 t.d.n, .string ⟨t.d.s.toArray⟩, vi, vk] 28)).heap.size = w.heap.size + 1 := by simp
  have hL2 := Lies.made (w.alloc (.cells #[.int .i64 t.k, .int .i64 t.n, .string ⟨t.s.toArray⟩, vp, .int .i64 t.d.k, .int .i64 t.d.n, .string ⟨t.d.s.toArray⟩, vi, vk] 28)) 3 #[.int .i64 0]
  rw [hz1] at hL2
  have hb2 : Below w.heap.size w ((w.alloc (.cells #[.int .i64 t.k, .int .i64 t.n, .string ⟨t.s.toArray⟩, vp, .int .i64 t.d.k, .int .i64 t.d.n, .string ⟨t.d.s.toArray⟩, vi, vk] 28)).alloc (.cells #[.int .i64 0] 3)) :=
    ((Below.refl _ w).alloc (Nat.le_refl _) _).alloc (by simp) _
  have hE2 := Lib.hid (hE.out _ hb2 _ (Nat.le_succ _) hL2)
  clear hE hz1 hL1 hL2 hb2 h
  go_enter Tryz.func11, Tryz.ntmps11
  go_wp2_with (
    go_at_call 29
    refine hE2.out.mono ?_
    rintro e w3 ⟨rfl, hP3, -, hb3, -⟩
    have q3 : w3.cell? ⟨w.heap.size + 1, 0, none⟩ = some (.int .i64 (Y : Nat)) := hP3.cell 0)
  go_ret
  exact ⟨rfl, hb3⟩
end Go.Proofs.YtpiekdcbjkgipaaGreatDoor

/- A map from ints to ints that the call itself has made, by what it holds at each key (0: nothing), and how many keys it has. -/
namespace Go.Proofs.YtpiekdcbjkgipaaGreatDoor
open Go.RowKit Go.Maps

theorem Tryz.keyLaw : Keyed Tryz.prog 3 := int_keyed Tryz.underlying3
theorem Tryz.zeroInt (w : World) : (zeroValue 3).run Tryz.prog w = .ok (.int .i64 0) w := by kernel_rfl

/-- block q is a map of n keys: at the key a it holds S a, unless that is 0 -/
def Im (w : World) (q n : Nat) (S : Int → Int) : Prop :=
  ∃ D : DataW Unit, w.ownsMap Tryz.prog 3 (plainElem Tryz.prog 3) q n D ∧ Maps.size D = n ∧ ∀ a, Maps.has D (.int .i64 a) = decide (S a ≠ 0) ∧ D.atKey (.int .i64 a) (.lit (.int .i64 0)) = .lit (.int .i64 (S a))
def setS (S : Int → Int) (a k : Int) : Int → Int := fun b => if b = a then k else S b

section
variable {w w' : World} {q n : Nat} {S : Int → Int}
theorem Im.made (w : World) : Im (w.alloc (.map #[] 0)) w.heap.size 0 (fun _ => 0) :=
  ⟨.map [], World.ownsMap_made w _ _ _, rfl, fun _ => ⟨rfl, rfl⟩⟩
theorem Im.lt (h : Im w q n S) : q < w.heap.size := by
  obtain ⟨D, h, _⟩ := h
  exact h.lt
theorem Im.turns {X : Nat → Prop} (h : Im w q n S) (k : Turns X w w') (hx : ¬ X q) : Im w' q n S := by
  have hlt := h.lt
  obtain ⟨D, ⟨es, clock, hb, r⟩, hD⟩ := h
  exact ⟨D, ⟨es, clock, (k.block q hlt hx).trans hb, r⟩, hD⟩
theorem Im.below (h : Im w q n S) (k : Below w.heap.size w w') : Im w' q n S := h.turns (Turns.of_below k (fun _ => False)) (fun h => h)
theorem Im.apart {g : Nat} {t : TypeId} {cs : List Value} (h : Im w q n S) (k : Lies w g t cs) : q ≠ g := by
  intro e
  subst e
  obtain ⟨D, ⟨es, clock, hb, _⟩, _⟩ := h
  unfold Lies at k
  rw [hb] at k
  cases k
set_option maxRecDepth 100000 in
theorem wf64 {a : Int} (h : -9223372036854775808 ≤ a ∧ a ≤ 9223372036854775807) : (Lit.int .i64 a).wf = true := by
  simp [Lit.wf, show IntKind.i64.min = -9223372036854775808 by decide +kernel, show IntKind.i64.max = 9223372036854775807 by decide +kernel]
  exact h
set_option maxRecDepth 100000 in
/-- m[b] -/
theorem Im.look (h : Im w q n S) {t : TypeId} (ht : Tryz.prog.underlying t = some (.map 3 3)) {b : Int} (hb : -9223372036854775808 ≤ b ∧ b ≤ 9223372036854775807) :
    (Instr.lookup t (.map (some q)) (.int .i64 b) false).run Tryz.prog w = .ok (.int .i64 (S b)) w := by
  obtain ⟨D, h1, h2, h3⟩ := h
  obtain ⟨c, hrun, hat, -⟩ := h1.lookup_int Tryz.keyLaw ht Tryz.underlying3 (Tryz.zeroInt w) (keyOf_int_mk Tryz.underlying3 (wf64 hb))
  rw [(h3 b).2] at hat
  injection hat with hat
  injection hat with _ hat
  rw [hrun, hat]
/-- len(m) -/
theorem Im.len (h : Im w q n S) {t : TypeId} (ht : Tryz.prog.underlying t = some (.map 3 3)) (ty : TypeId) :
    (Builtin.len_ #[t] ty #[.map (some q)]).run Tryz.prog w = .ok (.int .i64 n) w := by
  obtain ⟨D, h1, h2, h3⟩ := h
  rw [h1.len ht ty, h2]
theorem wf_inj {a b : Int} (h : a ≠ b) : Lit.int IntKind.i64 a ≠ Lit.int IntKind.i64 b := fun e => h (by injection e)
set_option maxRecDepth 100000 in
/-- m[b] = k -/
theorem Im.put (h : Im w q n S) {t : TypeId} (ht : Tryz.prog.underlying t = some (.map 3 3)) (hn : n ≤ 1000000000) {b k : Int} (hb : -9223372036854775808 ≤ b ∧ b ≤ 9223372036854775807) (hk : -9223372036854775808 ≤ k ∧ k ≤ 9223372036854775807) (h0 : k ≠ 0) :
    ∃ w', (Instr.mapUpdate t (.map (some q)) (.int .i64 b) (.int .i64 k)).run Tryz.prog w = .ok () w' ∧ Im w' q (if S b = 0 then n + 1 else n) (setS S b k) ∧ Turns (fun g => g = q) w w' := by
  obtain ⟨D, h1, h2, h3⟩ := h
  obtain ⟨w', hrun, hown, hg⟩ := h1.update Tryz.keyLaw ht (by unfold maxLen; omega) (keyOf_int_mk Tryz.underlying3 (wf64 hb)) (plainElem_int Tryz.underlying3 (wf64 hk))
  have hs : Maps.size (D.put (.int .i64 b) (.lit (.int .i64 k))) = if S b = 0 then n + 1 else n := by
    rw [size_put (h1.tidy Tryz.keyLaw), (h3 b).1, h2]
    by_cases e : S b = 0 <;> simp [e]
  refine ⟨w', hrun, ⟨D.put (.int .i64 b) (.lit (.int .i64 k)), ?_, hs, fun a => ?_⟩, (Turns.refl _ w).grown hg (fun g e _ => by injection e with e; exact e.symm)⟩
  · obtain ⟨es, clock, hbk, F, _, e⟩ := hown
    refine ⟨es, clock, hbk, F, ?_, e⟩
    rw [← hs, e]
    simp [Maps.size, length_sorted]
  · by_cases e : a = b
    · subst e
      refine ⟨by rw [has_put_same h1.isMap (k := .int .i64 a) trivial]; simp [setS, h0], by rw [atKey_put_same h1.isMap (k := .int .i64 a) trivial]; simp [setS]⟩
    · refine ⟨by rw [has_put_other (wf_inj e), (h3 a).1]; simp [setS, e], by rw [atKey_put_other (wf_inj e), (h3 a).2]; simp [setS, e]⟩
end
end Go.Proofs.YtpiekdcbjkgipaaGreatDoor

/- The reference's counts over data that can be read: how deep, how many parts; few enough for a statement. -/
namespace Go.Proofs.YtpiekdcbjkgipaaGreatDoor
open Go.ChangeShapes Go.WideShapes Go.ChangeAt Go.RowKit

namespace SM
theorem hi_len : ∀ (d : RM.Dl), 0 < d.len → 1 ≤ hi d
  | .nil, h => by simp [RM.Dl.len] at h
  | .cons k n s is r, _ => by unfold hi; omega
theorem hi_at {d : RM.Dl} {i : Nat} {x : RM.Dm} (h : d.at_ i = some x) : hi (dr d i) = max (hi x.is + 1) (hi (dr d (i + 1))) := by rw [dr_at d i x h]; rfl
theorem sz_at {d : RM.Dl} {i : Nat} {x : RM.Dm} (h : d.at_ i = some x) : sz (dr d i) = sz x.is + 1 + sz (dr d (i + 1)) := by rw [dr_at d i x h]; rfl
theorem hi_in : ∀ (d : RM.Dl) (i : Nat), hi (dr d i) ≤ hi d
  | d, 0 => by rw [dr_zero]; exact Nat.le_refl _
  | .nil, i + 1 => Nat.le_refl _
  | .cons k n s is r, i + 1 => by
    have := hi_in r i
    show hi (dr r i) ≤ max (hi is + 1) (hi r)
    omega
end SM
/-- how deep, as far as it is looked -/
def HiN (H : Nat) (far : Int) (w : World) (e : Ending) (w' : World) : Prop := ∃ y : Int, y = min ((H : Int) + 1) (far + 1) ∧ e = .returned (.int .i64 y) ∧ Went w w'
def HiOk (x : RM.Dm) : Prop := ∀ (w : World) (v : Value) (far : Int), In w v x.is → 0 ≤ far → far ≤ 100000 → Calls Tryz.prog 70 #[dtv x v, .int .i64 far] w (HiN (SM.hi x.is) far w)
def SzN (n : Int) (w : World) (e : Ending) (w' : World) : Prop := ∃ y : Int, y = min n 5000 ∧ e = .returned (.int .i64 y) ∧ Went w w'
def SzOk (x : RM.Dm) : Prop := ∀ (w : World) (v : Value) (n far : Int), In w v x.is → 0 ≤ n → n < 5000 → (SM.hi x.is : Int) ≤ far → far ≤ 100000 → Calls Tryz.prog 99 #[dtv x v, .int .i64 n, .int .i64 far] w (SzN (n + SM.sz x.is + 1) w)

set_option maxRecDepth 100000 in
set_option maxHeartbeats 4000000 in
theorem hi_step (k n : Int) (s : List UInt8) (is : RM.Dl) (hP : ∀ i x, is.at_ i = some x → HiOk x) : HiOk ⟨k, n, s, is⟩ := by
  intro w v far h1 hf0 hf1
  obtain ⟨A1, c1, rfl⟩ := h1.read
  have hlen := h1.len
  simp only at h1 hlen ⊢
  unfold dtv
  simp only
  obtain ⟨N, hN⟩ : ∃ N, is.len = N := ⟨_, rfl⟩
  obtain ⟨H, hH⟩ : ∃ H, SM.hi is = H := ⟨_, rfl⟩
  rw [hN] at h1 hlen ⊢
  rw [hH]
  have hpos : N = 0 → H = 0 := fun h => by
    rw [h] at hN
    have := SM.dr_end is 0 (by omega)
    rw [SM.dr_zero] at this
    rw [← hH, this]; rfl
  have hN' := Lib.hid hN
  have hH' := Lib.hid hH
  have hP' := Lib.hid hP
  have hL1 := Lies.made w 25 #[.int .i64 k, .int .i64 n, .string ⟨s.toArray⟩, .slice A1 N c1]
  clear hN hP hH
  by_cases hf : 0 < far
  · go_enter Tryz.func70, Tryz.ntmps70
    go_wp2_with fail
    go_loopw [5, 6] (fun y i wr => ∃ (j R : Nat) (m : Int), j ≤ N ∧ i = .int .i64 j ∧ Hid (SM.hi (SM.dr is j) = R) ∧ max m (min (R : Int) far) = min (H : Int) far ∧ 0 ≤ m ∧ m ≤ far ∧ y = .int .i64 m ∧ Below w.heap.size w wr ∧ Lies wr w.heap.size 25 [.int .i64 k, .int .i64 n, .string ⟨s.toArray⟩, .slice A1 N c1]) (fun _ i _ => N - (intOf i).toNat)
    case atStart => exact ⟨0, H, 0, by omega, rfl, Lib.hid (by rw [SM.dr_zero]; exact hH'.out), by omega, by omega, by omega, rfl, (Below.refl _ w).alloc (Nat.le_refl _) _, hL1⟩
    case round =>
      obtain ⟨j, R, m, hj, rfl, hR, hm, hm0, hm1, rfl, hb, hM1⟩ := hrel
      clear hL1
      have y3 : wr.cell? ⟨w.heap.size, 3, none⟩ = some (.slice A1 N c1) := hM1.cell 3
      by_cases hlt : j < N
      · obtain ⟨x, hx⟩ := is.at_some j (by rw [hN'.out]; exact hlt)
        obtain ⟨b, o, B, q, rfl, hb0, p0, p1, p2, p3, hd1⟩ := (h1.below hb).at_ hx
        have hx' := Lib.hid (hP'.out j x hx)
        have hR0 := hR.out
        rw [SM.hi_at hx] at hR0
        obtain ⟨R1, hR1⟩ : ∃ R1, SM.hi (SM.dr is (j + 1)) = R1 := ⟨_, rfl⟩
        obtain ⟨X, hX⟩ : ∃ X, SM.hi x.is = X := ⟨_, rfl⟩
        rw [hR1, hX] at hR0
        have hR1' := Lib.hid hR1
        have hX' := Lib.hid hX
        clear hx hR1 hX
        go_wp2_with (
          go_at_call 70
          refine (hx'.out wr (.slice B x.is.len q) (far - 1) hd1 (by omega) (by omega)).mono ?_
          rw [hX'.out]
          rintro e w5 ⟨y5, h50, rfl, hb5⟩
          have h50' := Lib.hid h50
          clear h50
          have hM3 := hM1.below hb5 hM1.lt
          have hb6 : Below w.heap.size w w5 := hb.trans (hb5.mono hb.size)
          clear p0 p1 p2 p3 y3 hb5)
        all_goals
          have h50 := h50'.out
          go_roundw
          case rel => exact ⟨j + 1, R1, _, by omega, by go_num, hR1', by omega, by omega, by omega, rfl, hb6, hM3⟩
          case measure => simp [intOf]; omega
      · obtain rfl : j = N := by omega
        have hR0 := hR.out
        rw [SM.dr_end is j (by rw [hN'.out]; exact Nat.le_refl _)] at hR0
        have hR1 : R = 0 := hR0.symm
        go_wp2_with fail
        go_ret
        exact ⟨m + 1, by omega, rfl, hb⟩
  · go_enter Tryz.func70, Tryz.ntmps70
    go_wp2_with fail
    go_ret
    exact ⟨1, by omega, rfl, (Below.refl _ w).alloc (Nat.le_refl _) _⟩
theorem hi_any (x : RM.Dm) : HiOk x := RM.Dl.all_of HiOk hi_step (.one x) 0 x (by cases x; rfl)

set_option maxRecDepth 100000 in
set_option maxHeartbeats 4000000 in
theorem sz_step (k n : Int) (s : List UInt8) (is : RM.Dl) (hP : ∀ i x, is.at_ i = some x → SzOk x) : SzOk ⟨k, n, s, is⟩ := by
  intro w v n0 far h1 hn0 hn1 hf0 hf1
  obtain ⟨A1, c1, rfl⟩ := h1.read
  have hlen := h1.len
  simp only at h1 hf0 hlen ⊢
  unfold dtv
  simp only
  obtain ⟨N, hN⟩ : ∃ N, is.len = N := ⟨_, rfl⟩
  obtain ⟨H, hH⟩ : ∃ H, SM.hi is = H := ⟨_, rfl⟩
  obtain ⟨Z, hZ⟩ : ∃ Z, SM.sz is = Z := ⟨_, rfl⟩
  rw [hN] at h1 hlen ⊢
  rw [hH] at hf0
  rw [hZ]
  have hfar : 0 < N → 0 < far := fun h => by
    have := SM.hi_len is (by omega)
    omega
  have hN' := Lib.hid hN
  have hH' := Lib.hid hH
  have hZ' := Lib.hid hZ
  have hP' := Lib.hid hP
  have hL1 := Lies.made w 25 #[.int .i64 k, .int .i64 n, .string ⟨s.toArray⟩, .slice A1 N c1]
  clear hN hP hH hZ
  go_enter Tryz.func99, Tryz.ntmps99
  go_wp2_with fail
  go_loopw [1, 7] (fun y i wr => ∃ (j R : Nat) (m : Int), j ≤ N ∧ i = .int .i64 j ∧ Hid (SM.sz (SM.dr is j) = R) ∧ min (m + (R : Int)) 5000 = min (n0 + (Z : Int) + 1) 5000 ∧ 0 ≤ m ∧ m ≤ 5000 ∧ y = .int .i64 m ∧ Below w.heap.size w wr ∧ Lies wr w.heap.size 25 [.int .i64 k, .int .i64 n, .string ⟨s.toArray⟩, .slice A1 N c1]) (fun _ i _ => N - (intOf i).toNat)
  case atStart => exact ⟨0, Z, n0 + 1, by omega, rfl, Lib.hid (by rw [SM.dr_zero]; exact hZ'.out), by omega, by omega, by omega, rfl, (Below.refl _ w).alloc (Nat.le_refl _) _, hL1⟩
  case round =>
    obtain ⟨j, R, m, hj, rfl, hR, hm, hm0, hm1, rfl, hb, hM1⟩ := hrel
    clear hL1
    have y3 : wr.cell? ⟨w.heap.size, 3, none⟩ = some (.slice A1 N c1) := hM1.cell 3
    by_cases hlt : j < N ∧ m < 5000
    · obtain ⟨hlt, hmm⟩ := hlt
      have hff := hfar (by omega)
      obtain ⟨x, hx⟩ := is.at_some j (by rw [hN'.out]; exact hlt)
      obtain ⟨b, o, B, q, rfl, hb0, p0, p1, p2, p3, hd1⟩ := (h1.below hb).at_ hx
      have hx' := Lib.hid (hP'.out j x hx)
      have hR0 := hR.out
      rw [SM.sz_at hx] at hR0
      have hup : SM.hi x.is + 1 ≤ H := by
        have h2 := SM.hi_at hx
        have h3 := SM.hi_in is j
        rw [hH'.out] at h3
        omega
      obtain ⟨R1, hR1⟩ : ∃ R1, SM.sz (SM.dr is (j + 1)) = R1 := ⟨_, rfl⟩
      obtain ⟨X, hX⟩ : ∃ X, SM.sz x.is = X := ⟨_, rfl⟩
      obtain ⟨Y, hY⟩ : ∃ Y, SM.hi x.is = Y := ⟨_, rfl⟩
      rw [hR1, hX] at hR0
      rw [hY] at hup
      have hR1' := Lib.hid hR1
      have hX' := Lib.hid hX
      have hY' := Lib.hid hY
      clear hx hR1 hX hY
      go_wp2_with (
        go_at_call 99
        refine (hx'.out wr (.slice B x.is.len q) m (far - 1) hd1 (by omega) (by omega) (by rw [hY'.out]; omega) (by omega)).mono ?_
        rw [hX'.out]
        rintro e w5 ⟨y5, h50, rfl, hb5⟩
        have h50' := Lib.hid h50
        clear h50
        have hM3 := hM1.below hb5 hM1.lt
        have hb6 : Below w.heap.size w w5 := hb.trans (hb5.mono hb.size)
        clear p0 p1 p2 p3 y3 hb5)
      have h50 := h50'.out
      go_roundw
      case rel => exact ⟨j + 1, R1, y5, by omega, by go_num, hR1', by omega, by omega, by omega, rfl, hb6, hM3⟩
      case measure => simp [intOf]; omega
    · by_cases hj2 : j < N
      · have hff := hfar (by omega)
        have hmm : m = 5000 := by omega
        clear hlt
        go_wp2_with fail
        all_goals
          go_ret
          exact ⟨5000, by omega, by first | rfl | (congr 2; omega), hb⟩
      · clear hlt
        obtain rfl : j = N := by omega
        have hR0 := hR.out
        rw [SM.dr_end is j (by rw [hN'.out]; exact Nat.le_refl _)] at hR0
        have hR1 : R = 0 := hR0.symm
        go_wp2_with fail
        all_goals
          go_ret
          exact ⟨_, by omega, rfl, hb⟩
theorem sz_any (x : RM.Dm) : SzOk x := RM.Dl.all_of SzOk sz_step (.one x) 0 x (by cases x; rfl)
set_option maxRecDepth 100000 in
theorem rparts_any (x : RM.Dm) (w : World) (v : Value) (h : In w v x.is) (hf : (SM.hi x.is : Int) ≤ 100000) : Calls Tryz.prog 71 #[dtv x v] w (SzN (SM.sz x.is + 1) w) := by
  obtain ⟨A1, c1, rfl⟩ := h.read
  obtain ⟨Z, hZ⟩ : ∃ Z, SM.sz x.is = Z := ⟨_, rfl⟩
  have hC := Lib.hid (fun w' (hb : Below w.heap.size w w') => sz_any x w' (.slice A1 x.is.len c1) 0 100000 (h.below hb) (by omega) (by omega) hf (by omega))
  unfold dtv at hC ⊢
  rw [hZ] at hC ⊢
  have hb0 : Below w.heap.size w (w.alloc (.cells #[.int .i64 x.k, .int .i64 x.n, .string ⟨x.s.toArray⟩, .slice A1 x.is.len c1] 25)) := (Below.refl _ w).alloc (Nat.le_refl _) _
  go_enter Tryz.func71, Tryz.ntmps71
  go_wp2_with (
    go_at_call 99
    refine (hC.out _ hb0).mono ?_
    rintro e w5 ⟨y5, h50, rfl, hb5⟩
    have h50' := Lib.hid h50
    clear h50)
  have h50 := h50'.out
  go_ret
  exact ⟨y5, by omega, rfl, hb0.trans (hb5.mono (by simp))⟩
end Go.Proofs.YtpiekdcbjkgipaaGreatDoor
