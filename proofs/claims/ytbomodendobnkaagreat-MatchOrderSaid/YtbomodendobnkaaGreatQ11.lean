/- Data that can be read, with room enough behind each row to cut it: their parts. -/
import Derived.Test.YtbomodendobnkaaGreatQ10
import Derived.Test.YtbomodendobnkaaGreatQ5
import Derived.Lib.SliceRun
namespace Go.Proofs.YtbomodendobnkaaGreat
open Go.ChangeShapes Go.WideShapes Go.ChangeAt Go.RowKit Go.Deep

/-- these data lie in block b from o on, each row no longer than its room -/
def CnAt (w : World) : RM.Dl → Nat → Nat → Prop
  | .nil, _, _ => True
  | .cons k n s is r, b, o => b < w.heap.size ∧ w.cell? ⟨b, o, none⟩ = some (.int .i64 k) ∧ w.cell? ⟨b, o + 1, none⟩ = some (.int .i64 n) ∧ w.cell? ⟨b, o + 2, none⟩ = some (.string ⟨s.toArray⟩)
      ∧ (∃ A c, w.cell? ⟨b, o + 3, none⟩ = some (.slice A is.len c) ∧ (is.len ≤ c ∧ c ≤ 9223372036854775807) ∧ ∃ b' o', (0 < is.len → A = some ⟨b', o', none⟩) ∧ CnAt w is b' o') ∧ CnAt w r b (o + 4)
def Cn (w : World) (v : Value) (d : RM.Dl) : Prop := ∃ A c, v = .slice A d.len c ∧ (d.len ≤ c ∧ c ≤ 9223372036854775807) ∧ ∃ b o, (0 < d.len → A = some ⟨b, o, none⟩) ∧ CnAt w d b o
section
variable {w w' : World} {v : Value}
theorem CnAt.below (k : Below w.heap.size w w') : ∀ {d : RM.Dl} {b o : Nat}, CnAt w d b o → CnAt w' d b o
  | .nil, _, _, _ => trivial
  | .cons _ _ _ _ _, b, o, ⟨h0, h1, h2, h3, ⟨A, c, h4, hl, b', o', h5, h6⟩, h7⟩ =>
    ⟨Nat.lt_of_lt_of_le h0 k.size, (k.cell (p := ⟨b, o, none⟩) h0).trans h1, (k.cell (p := ⟨b, o + 1, none⟩) h0).trans h2, (k.cell (p := ⟨b, o + 2, none⟩) h0).trans h3,
      ⟨A, c, (k.cell (p := ⟨b, o + 3, none⟩) h0).trans h4, hl, b', o', h5, CnAt.below k h6⟩, CnAt.below k h7⟩
theorem Cn.below {d : RM.Dl} (h : Cn w v d) (k : Below w.heap.size w w') : Cn w' v d := by
  obtain ⟨A, c, e, hl, b, o, h1, h2⟩ := h
  exact ⟨A, c, e, hl, b, o, h1, h2.below k⟩
theorem Cn.drew {d : RM.Dl} (h : Cn w v d) : Cn w.drew v d := h.below (below_of_drew (w := w) (w' := w.drew) (Below.refl _ _))
theorem CnAt.in_ : ∀ {d : RM.Dl} {b o : Nat}, CnAt w d b o → InAt w d b o
  | .nil, _, _, _ => trivial
  | .cons _ _ _ _ _, _, _, ⟨h0, h1, h2, h3, ⟨A, c, h4, hl, b', o', h5, h6⟩, h7⟩ => ⟨h0, h1, h2, h3, ⟨A, c, h4, Nat.le_trans hl.1 hl.2, b', o', h5, CnAt.in_ h6⟩, CnAt.in_ h7⟩
theorem Cn.in_ {d : RM.Dl} (h : Cn w v d) : In w v d := by
  obtain ⟨A, c, e, hl, b, o, h1, h2⟩ := h
  exact ⟨A, c, e, Nat.le_trans hl.1 hl.2, b, o, h1, h2.in_⟩
theorem Cn.read {d : RM.Dl} (h : Cn w v d) : ∃ A c, v = .slice A d.len c := by
  obtain ⟨A, c, e, _⟩ := h; exact ⟨A, c, e⟩
theorem Cn.len {d : RM.Dl} (h : Cn w v d) : d.len ≤ 9223372036854775807 := h.in_.len
theorem Cn.room {A : Option Addr} {n c : Nat} {d : RM.Dl} (h : Cn w (.slice A n c) d) : d.len ≤ c ∧ c ≤ 9223372036854775807 := by
  obtain ⟨A', c', e, hl, _⟩ := h
  injection e with e1 e2 e3
  subst e3; exact hl
theorem Cn.nil (w : World) : Cn w (.slice none 0 0) .nil := ⟨none, 0, rfl, ⟨Nat.le_refl _, by omega⟩, 0, 0, fun h => absurd h (by simp [RM.Dl.len]), trivial⟩
theorem CnAt.at_ : ∀ {d : RM.Dl} {b o i : Nat} {x : RM.Dm}, CnAt w d b o → d.at_ i = some x →
    b < w.heap.size ∧ w.cell? ⟨b, o + i * 4, none⟩ = some (.int .i64 x.k) ∧ w.cell? ⟨b, o + i * 4 + 1, none⟩ = some (.int .i64 x.n) ∧ w.cell? ⟨b, o + i * 4 + 2, none⟩ = some (.string ⟨x.s.toArray⟩)
      ∧ ∃ A c, w.cell? ⟨b, o + i * 4 + 3, none⟩ = some (.slice A x.is.len c) ∧ Cn w (.slice A x.is.len c) x.is
  | .nil, _, _, _, _, _, hx => by simp [RM.Dl.at_] at hx
  | .cons k n s is r, b, o, 0, x, ⟨h0, h1, h2, h3, ⟨A, c, h4, hl, b', o', h5, h6⟩, h7⟩, hx => by
    simp only [RM.Dl.at_, Option.some.injEq] at hx
    subst hx
    simp only [Nat.zero_mul, Nat.add_zero]
    exact ⟨h0, h1, h2, h3, A, c, h4, A, c, rfl, hl, b', o', h5, h6⟩
  | .cons k n s is r, b, o, i + 1, x, ⟨h0, h1, h2, h3, h4, h7⟩, hx => by
    have h := CnAt.at_ h7 (show r.at_ i = some x from hx)
    rw [show o + (i + 1) * 4 = o + 4 + i * 4 by omega]
    exact h
theorem Cn.at_ {A : Option Addr} {n c : Nat} {d : RM.Dl} (h : Cn w (.slice A n c) d) {i : Nat} {x : RM.Dm} (hx : d.at_ i = some x) :
    ∃ b o B m, A = some ⟨b, o, none⟩ ∧ b < w.heap.size ∧ w.cell? ⟨b, o + i * 4, none⟩ = some (.int .i64 x.k) ∧ w.cell? ⟨b, o + i * 4 + 1, none⟩ = some (.int .i64 x.n) ∧ w.cell? ⟨b, o + i * 4 + 2, none⟩ = some (.string ⟨x.s.toArray⟩)
      ∧ w.cell? ⟨b, o + i * 4 + 3, none⟩ = some (.slice B x.is.len m) ∧ Cn w (.slice B x.is.len m) x.is := by
  obtain ⟨A', c', e, -, b, o, h1, h2⟩ := h
  injection e with e1 e2 e3
  subst e1 e2 e3
  have hl : 0 < d.len := by
    cases d with
    | nil => simp [RM.Dl.at_] at hx
    | cons => simp [RM.Dl.len]
  obtain ⟨g0, g1, g2, g3, B, m, g4, g5⟩ := h2.at_ hx
  exact ⟨b, o, B, m, h1 hl, g0, g1, g2, g3, g4, g5⟩
/-! ### parts -/
theorem CnAt.dr : ∀ {d : RM.Dl} {b o : Nat} (i : Nat), CnAt w d b o → CnAt w (SM.dr d i) b (o + i * 4)
  | d, b, o, 0, h => by rw [SM.dr_zero, Nat.zero_mul, Nat.add_zero]; exact h
  | .nil, b, o, i + 1, h => trivial
  | .cons k n s is r, b, o, i + 1, ⟨_, _, _, _, _, h⟩ => by
    have := CnAt.dr i h
    rw [show o + (i + 1) * 4 = o + 4 + i * 4 by omega]
    exact this
theorem CnAt.tk : ∀ {d : RM.Dl} {b o : Nat} (i : Nat), CnAt w d b o → CnAt w (SM.tk d i) b o
  | d, b, o, 0, h => by
    rw [show SM.tk d 0 = .nil by cases d <;> rfl]; exact trivial
  | .nil, b, o, i + 1, h => trivial
  | .cons k n s is r, b, o, i + 1, ⟨h1, h2, h3, h4, h5, h⟩ => ⟨h1, h2, h3, h4, h5, CnAt.tk i h⟩
theorem sizeDatum (w : World) : (Go.sizeOf 24).run Tryz.prog w = .ok 4 w := by kernel_rfl
theorem elemData : Tryz.prog.elem 22 = 24 := by kernel_rfl
theorem sub_cn {A : Option Addr} {n c l h : Nat} {d : RM.Dl} (hd : Cn w (.slice A n c) d) (h1 : l ≤ h) (h2 : h ≤ d.len) :
    ∃ A', sliced A l h c 4 = .slice A' (h - l) (c - l) ∧ Cn w (.slice A' (h - l) (c - l)) (SM.tk (SM.dr d l) (h - l)) := by
  obtain ⟨A2, c2, e, hl, b, o, hA, hC⟩ := hd
  injection e with e1 e2 e3
  subst e1 e2 e3
  have hlen : (SM.tk (SM.dr d l) (h - l)).len = h - l := SM.tk_len _ _ (by rw [SM.dr_len]; omega)
  refine ⟨if c = l then A else A.map (·.add (l * 4)), rfl, _, _, by rw [hlen], ⟨by rw [hlen]; omega, by omega⟩, b, o + l * 4, fun h0 => ?_, (hC.dr l).tk _⟩
  rw [hlen] at h0
  rw [if_neg (by omega), hA (by omega)]
  show some (Addr.add _ _) = _
  congr 1
  unfold Addr.add
  split <;> simp_all
/-- s[:k] -/
theorem Cn.to {A : Option Addr} {n c k : Nat} {d : RM.Dl} (hd : Cn w (.slice A n c) d) (hk : k ≤ d.len) :
    ∃ A' c', (∀ w', (Instr.slice 22 (.slice A n c) none (some (.int .i64 (k : Int))) none).run Tryz.prog w' = .ok (.slice A' k c') w') ∧ Cn w (.slice A' k c') (SM.tk d k) := by
  obtain ⟨A', e, h⟩ := sub_cn hd (Nat.zero_le k) hk
  rw [SM.dr_zero, Nat.sub_zero, Nat.sub_zero] at h
  refine ⟨A', c, fun w' => ?_, h⟩
  have hc := hd.room
  rw [run_slice_h w' 22 A n c (by rw [elemData]; exact Tryz.underlying22) .i64 (k : Int) (by omega) (by omega), elemData, sizeDatum, Result.andThen_ok, Int.toNat_natCast, e, Nat.sub_zero, Nat.sub_zero]
/-- s[k:] -/
theorem Cn.from_ {A : Option Addr} {n c k : Nat} {d : RM.Dl} (hd : Cn w (.slice A n c) d) (hk : k ≤ d.len) :
    ∃ A' c', (∀ w', (Instr.slice 22 (.slice A n c) (some (.int .i64 (k : Int))) none none).run Tryz.prog w' = .ok (.slice A' (n - k) c') w') ∧ Cn w (.slice A' (n - k) c') (SM.dr d k) := by
  have hn : n = d.len := by
    obtain ⟨A2, c2, e, _⟩ := hd
    injection e
  obtain ⟨A', e, h⟩ := sub_cn hd hk (Nat.le_refl _)
  have et : SM.tk (SM.dr d k) (d.len - k) = SM.dr d k := by
    have := SM.tk_all (SM.dr d k)
    rwa [SM.dr_len] at this
  rw [et] at h
  rw [hn]
  refine ⟨A', c - k, fun w' => ?_, h⟩
  rw [run_slice_l w' 22 A d.len c (by rw [elemData]; exact Tryz.underlying22) .i64 (k : Int) (by omega) (by omega), elemData, sizeDatum, Result.andThen_ok, Int.toNat_natCast, e]
/-- s[j:k] -/
theorem Cn.cut {A : Option Addr} {n c j k : Nat} {d : RM.Dl} (hd : Cn w (.slice A n c) d) (hj : j ≤ k) (hk : k ≤ d.len) :
    ∃ A' c', (∀ w', (Instr.slice 22 (.slice A n c) (some (.int .i64 (j : Int))) (some (.int .i64 (k : Int))) none).run Tryz.prog w' = .ok (.slice A' (k - j) c') w') ∧ Cn w (.slice A' (k - j) c') (SM.tk (SM.dr d j) (k - j)) := by
  obtain ⟨A', e, h⟩ := sub_cn hd hj hk
  have hc := hd.room
  refine ⟨A', c - j, fun w' => ?_, h⟩
  rw [run_slice_lh w' 22 A n c (by rw [elemData]; exact Tryz.underlying22) .i64 .i64 (j : Int) (k : Int) (by omega) (by omega) (by omega), elemData, sizeDatum, Result.andThen_ok, Int.toNat_natCast, Int.toNat_natCast, e]
/-! ### one's own -/
theorem own_room {n sz : Nat} {e : TypeId} {xs : List Value} {A : Option Addr} {m c : Nat} (h : w.ownsRow 0 e sz (.slice A m c) n xs) : n ≤ c ∧ c ≤ 9223372036854775807 := by
  rcases h.2 with ⟨e1, hn⟩ | ⟨g, cap, cur, e1, _, _, hc, hm, _⟩
  · injection e1 with _ _ e3; omega
  · injection e1 with _ _ e3
    unfold maxLen at hm
    omega
theorem CnAt.of_dat {S : Nat → Prop} : ∀ {d : RM.Dl} {cs : List Value} {b o : Nat}, DatAt w S d cs → b < w.heap.size → (∀ j, j < cs.length → w.cell? ⟨b, o + j, none⟩ = cs[j]?) → CnAt w d b o
  | .nil, _, _, _, _, _, _ => trivial
  | .cons k n s is r, cs, b, o, ⟨v, c1, c2, h1, h2, h3, h4, h5⟩, hb, hc => by
    subst h1
    obtain ⟨A, c, rfl, hr⟩ := own_read h2
    have hl : c1.length = is.len * 4 := h2.1
    refine ⟨hb, by have := hc 0 (by simp); simpa using this, by have := hc 1 (by simp); simpa using this, by have := hc 2 (by simp); simpa using this, ⟨A, c, by have := hc 3 (by simp); simpa using this, own_room h2, ?_⟩, CnAt.of_dat h5 hb ?_⟩
    · by_cases h0 : 0 < is.len
      · obtain ⟨g, hg, _, hlt, _⟩ := hr 0 (by omega)
        refine ⟨g, 0, fun _ => hg, CnAt.of_dat h4 hlt fun j hj => ?_⟩
        obtain ⟨g', hg', _, _, h'⟩ := hr j (by omega)
        rw [hg] at hg'
        cases hg'
        rw [Nat.zero_add]
        exact h'
      · have : is = .nil := by
          cases is with
          | nil => rfl
          | cons => simp [RM.Dl.len] at h0
        subst this
        exact ⟨0, 0, fun h => absurd h (by simp [RM.Dl.len]), trivial⟩
    · intro j hj
      have := hc (4 + j) (by simp; omega)
      rw [show o + 4 + j = o + (4 + j) by omega, this, List.getElem?_append_right (by simp)]
      simp
theorem Dat.cn {S : Nat → Prop} {d : RM.Dl} (h : Dat w S v d) : Cn w v d := by
  obtain ⟨cs, h1, h2, h3⟩ := h
  obtain ⟨A, c, rfl, hr⟩ := own_read h1
  have hl : cs.length = d.len * 4 := h1.1
  by_cases h0 : 0 < d.len
  · obtain ⟨g, hg, _, hlt, _⟩ := hr 0 (by omega)
    refine ⟨A, c, rfl, own_room h1, g, 0, fun _ => hg, CnAt.of_dat h3 hlt fun j hj => ?_⟩
    obtain ⟨g', hg', _, _, h'⟩ := hr j (by omega)
    rw [hg] at hg'
    cases hg'
    rw [Nat.zero_add]
    exact h'
  · have : d = .nil := by
      cases d with
      | nil => rfl
      | cons => simp [RM.Dl.len] at h0
    subst this
    exact ⟨A, c, rfl, own_room h1, 0, 0, fun h => absurd h (by simp [RM.Dl.len]), trivial⟩
end
end Go.Proofs.YtbomodendobnkaaGreat
