/- Package term: bind gives the next numbers to the locals of a procedure. -/
import Derived.Test.YtpiekdcbjkgipaaGreatQ6
import Derived.Test.YtpiekdcbjkgipaaGreatQ18
namespace Go.Proofs.YtpiekdcbjkgipaaGreat
open Go.ChangeShapes Go.WideShapes Go.ChangeAt Go.RowKit Go.Deep
open TM (Tl Tm)

namespace TM
theorem pl_in {a b : List Int} {n : Int} (h : a.contains n = true) : pl (a ++ b) n = pl a n := by
  unfold pl
  have h2 : n ∈ a := by simpa using h
  rw [h, if_pos rfl, if_pos (by simp [h2]), List.idxOf_append, if_pos h2]
theorem pl_new {a b : List Int} {n : Int} (h : a.contains n = false) : pl (a ++ n :: b) n = a.length + 1 := by
  unfold pl
  have h2 : n ∉ a := by simpa using h
  rw [if_pos (by simp), List.idxOf_append, if_neg h2, List.idxOf_cons_self]
  simp
theorem pl_none {a : List Int} {n : Int} (h : a.contains n = false) : pl a n = 0 := by unfold pl; rw [h]; simp
theorem pl_some {a : List Int} {n : Int} (h : a.contains n = true) : 1 ≤ pl a n ∧ pl a n ≤ a.length := by
  unfold pl
  have h2 : n ∈ a := by simpa using h
  rw [if_pos h]
  have := List.idxOf_lt_length_of_mem h2
  omega
theorem pl_zero {a : List Int} {n : Int} : pl a n = 0 ↔ a.contains n = false := by
  cases h : a.contains n
  · simp [pl_none h]
  · have := pl_some h
    simp; omega
theorem pl_push {a : List Int} {p : Int} (h : a.contains p = false) : setS (pl a) p (a.length + 1) = pl (a ++ [p]) := by
  funext x
  unfold setS
  by_cases e : x = p
  · subst e
    rw [if_pos rfl, pl_new h]
  · rw [if_neg e]
    cases hx : a.contains x
    · rw [pl_none hx, pl_none]
      simp at hx ⊢
      exact ⟨hx, e⟩
    · rw [pl_in hx]
theorem upd_at (l : List Int) (f : Int → Int) {j : Nat} {x : Int} (h : l[j]? = some x) : ((l.take j).map f ++ l.drop j).set j (f x) = (l.take (j + 1)).map f ++ l.drop (j + 1) := by
  obtain ⟨hj, hx⟩ := List.getElem?_eq_some_iff.1 h
  have hl : ((l.take j).map f).length = j := by simp; omega
  rw [List.drop_eq_getElem_cons hj, List.set_append_right _ _ (by omega), hl, Nat.sub_self, List.set_cons_zero, List.take_add_one, h]
  simp
end TM
theorem PIn.cell_at {w : World} {g n c : Nat} {l : List Int} (h : PIn w (.slice (some ⟨g, 0, none⟩) n c) l) {j : Nat} {x : Int} (hx : l[j]? = some x) : w.cell? ⟨g, j, none⟩ = some (.int .i64 x) := by
  obtain ⟨b, o, e, _, hc⟩ := h.cell hx
  injection e with e
  injection e with e1 e2
  subst e1 e2
  rwa [Nat.zero_add] at hc
theorem PIn.raw {w : World} {A : Option Addr} {n c : Nat} {l : List Int} (h : PIn w (.slice A n c) l) : Raw w A n 1 (l.map (.int .i64)) := by
  obtain ⟨A', c', e, hl, b, o, h1, h2⟩ := h
  injection e with e1 e2 e3
  subst e1 e2
  refine ⟨by simp, fun hn => ?_, fun a ha j u hu => ?_, fun u hu => ?_⟩
  · by_cases h0 : 0 < l.length
    · have := (h1 h0).1
      rw [hn] at this; cases this
    · omega
  · rw [List.getElem?_map] at hu
    obtain ⟨x, hx, rfl⟩ := Option.map_eq_some_iff.1 hu
    have hj := (List.getElem?_eq_some_iff.1 hx).1
    have := (h1 (by omega)).1
    rw [ha] at this
    injection this with this
    subst this
    have := h2 j x hx
    rw [add_plain]
    exact this
  · obtain ⟨x, _, rfl⟩ := List.mem_map.1 hu
    rfl
def BindN (q : Nat) (met ps : List Int) (w : World) (e : Ending) (w' : World) : Prop :=
  ∃ v', e = .returned v' ∧ Own w' w.heap.size v' (ps.map (TM.pl (met ++ ps))) ∧ Im w' q (met.length + ps.length) (TM.pl (met ++ ps)) ∧ Turns (fun g => g = q) w w'
set_option maxRecDepth 100000 in
set_option maxHeartbeats 4000000 in
theorem bind_any (q : Nat) (met ps : List Int) (w0 w : World) (v : Value) (h : PIn w0 v ps) (hb : Below w0.heap.size w0 w) (hq : w0.heap.size ≤ q) (hI : Im w q met.length (TM.pl met)) (hf : TM.frs met ps = true) (h64 : ∀ p ∈ ps, b64 p) (hl : met.length + ps.length ≤ 1000000) :
    Calls Tryz.prog 55 #[.map (some q), v] w (BindN q met ps w) := by
  obtain ⟨A, c, rfl⟩ := h.read
  have hC := Lib.hid (cloneI A ps.length c (ps.map (.int .i64)) w (h.below hb).raw (by omega))
  obtain ⟨hnd, hnm⟩ := TM.frs_nodup met ps hf
  obtain ⟨L, hL⟩ : ∃ L, ps.length = L := ⟨_, rfl⟩
  rw [hL] at h hl hC
  have hL' := Lib.hid hL
  have h64' := Lib.hid h64
  have hI' := Lib.hid hI
  have hnd' := Lib.hid hnd
  have hnm' := Lib.hid hnm
  have hlt := hI.lt
  obtain ⟨M, hM⟩ : ∃ M, met.length = M := ⟨_, rfl⟩
  rw [hM] at hl
  have hM' := Lib.hid hM
  rw [show Value.slice A ps.length c = .slice A L c by rw [hL]]
  clear hL h64 hI hf hnd hnm hM
  go_enter Tryz.func55, Tryz.ntmps55
  go_wp2_with (
    go_at_call 74
    refine hC.out.mono ?_
    rintro e w1 ⟨v1, rfl, hown, hb1⟩
    have hI1 := Lib.hid (hI'.out.below hb1)
    have hT1 := Lib.hid (Turns.of_below hb1 (fun g => g = q))
    obtain ⟨B5, c5, rfl, -⟩ := own_read hown
    have hown' := Lib.hid hown
    clear hown hb1)
  go_loopw [12] (fun i wr => ∃ (j : Nat), j ≤ L ∧ i = .int .i64 j ∧ Own wr w.heap.size (.slice B5 L c5) ((ps.take j).map (TM.pl (met ++ ps)) ++ ps.drop j) ∧ Im wr q (M + j) (TM.pl (met ++ ps.take j)) ∧ Turns (fun g => g = q) w wr) (fun i _ => L - (intOf i).toNat)
  case atStart =>
    refine ⟨0, Nat.zero_le _, rfl, ?_, ?_, hT1.out⟩
    · simp only [List.take_zero, List.map_nil, List.nil_append, List.drop_zero]
      have := hown'.out
      unfold Own
      rw [hL'.out]
      exact this
    · simp only [List.take_zero, List.append_nil, Nat.add_zero, ← hM'.out]
      exact hI1.out
  case round =>
    obtain ⟨j, hj, rfl, hO, hI2, hT⟩ := hrel
    have hT' := Lib.hid hT
    clear hT hI1 hT1 hown'
    by_cases hjl : j < L
    · have hx : ps[j]? = some (ps[j]'(by rw [hL'.out]; exact hjl)) := List.getElem?_eq_getElem _
      obtain ⟨x, hxe⟩ : ∃ x, ps[j]'(by rw [hL'.out]; exact hjl) = x := ⟨_, rfl⟩
      rw [hxe] at hx
      obtain ⟨b, o, rfl, hb0, p0⟩ := h.cell hx
      have hbr := below_of_turns hb hT'.out hq
      have y0 : wr.cell? ⟨b, o + j, none⟩ = some (.int .i64 x) := (hbr.cell (p := ⟨b, o + j, none⟩) hb0).trans p0
      have x64 := h64'.out x (by rw [← hxe]; exact List.getElem_mem _)
      have hlo : ((ps.take j).map (TM.pl (met ++ ps)) ++ ps.drop j).length = L := by simp; rw [hL'.out]; omega
      obtain ⟨g, e5, hg1, hg2, hgc⟩ := hO.cell (j := j) (by rw [hlo]; exact hjl)
      subst e5
      have hqg : q ≠ g := by omega
      have hnx : (met ++ ps.take j).contains x = false := by
        have h1 := hnm'.out x (by rw [← hxe]; exact List.getElem_mem _)
        have h2 : x ∉ ps.take j := by
          intro hh
          obtain ⟨i, hi, hix⟩ := List.getElem_of_mem hh
          rw [List.getElem_take] at hix
          simp at hi
          have := (List.getElem_inj (h₀ := by omega) (h₁ := by rw [hL'.out]; exact hjl) hnd'.out).1 (hix.trans hxe.symm)
          omega
        simp at h1 h2 ⊢
        exact ⟨h1, h2⟩
      have htk : ps.take (j + 1) = ps.take j ++ [x] := by rw [List.take_add_one, hx]; rfl
      have hsp : ps = ps.take j ++ (x :: ps.drop (j + 1)) := by rw [← hxe, ← List.drop_eq_getElem_cons, List.take_append_drop]
      have hml : (met ++ ps.take j).length = M + j := by
        simp only [List.length_append, List.length_take]
        rw [hL'.out, hM'.out, Nat.min_eq_left hj]
      have hpx : TM.pl (met ++ ps) x = (M : Int) + j + 1 := by
        have := TM.pl_new (a := met ++ ps.take j) (b := ps.drop (j + 1)) hnx
        rw [List.append_assoc, ← hsp] at this
        rw [this, hml]
        simp
      have hln := hI2.len (t := 66) Tryz.underlying66 3
      have hz0 := TM.pl_none hnx
      have hO2 : Own (wr.setCell ⟨g, j, none⟩ (.int .i64 ((M : Int) + j + 1))) w.heap.size (.slice (some ⟨g, 0, none⟩) L c5) ((ps.take (j + 1)).map (TM.pl (met ++ ps)) ++ ps.drop (j + 1)) := by
        rw [← TM.upd_at ps (TM.pl (met ++ ps)) hx, hpx]
        unfold Own at hO ⊢
        rw [List.length_set, hlo, List.map_set]
        rw [hlo] at hO
        exact (hO.stored j _).1
      have hI3 := hI2.turns ((Turns.refl (fun k => k = g) wr).setCell (p := ⟨g, j, none⟩) (fun _ => rfl) (.int .i64 ((M : Int) + j + 1))) hqg
      have hT3 := hT'.out.setCell (p := ⟨g, j, none⟩) (fun h => by simp only at h; omega) (.int .i64 ((M : Int) + j + 1))
      obtain ⟨w4, hrun, hI4, hT4⟩ := hI3.put (t := 66) Tryz.underlying66 (by omega) x64 (k := (M : Int) + j + 1) ⟨by omega, by omega⟩ (by omega)
      rw [if_pos hz0, show ((M : Int) + j + 1) = ((met ++ ps.take j).length : Int) + 1 by rw [hml]; simp, TM.pl_push hnx, List.append_assoc, ← htk] at hI4
      have hO4 := Lib.hid (hO2.turns hT4 (fun k hk hh => hqg (by have e : some g = some k := hk; injection e with e; omega)))
      have hT5 := Lib.hid (hT3.then hT4 (fun _ _ h => h))
      have hI4' := Lib.hid hI4
      have fr : wr.frozen? ⟨g, j, none⟩ = false := by
        unfold Own at hO
        rw [hlo] at hO
        exact hO.frozenAt j
      have g1 : (wr.setCell ⟨g, j, none⟩ (.int .i64 ((M : Int) + j + 1))).cell? ⟨g, j, none⟩ = some (.int .i64 ((M : Int) + j + 1)) := by
        rw [hO2.pin.cell_at (j := j) (x := (M : Int) + j + 1) (by
          rw [← TM.upd_at ps (TM.pl (met ++ ps)) hx, hpx, List.getElem?_set_self (by rw [hlo]; exact hjl)])]
      simp only [Int.natCast_add] at hln
      clear hx hxe p0 hbr hlo hO hnx htk hsp hpx hz0 hO2 hI3 hT3 hI4 hT4 hI2 hml hb0 hC
      go_wp2_with fail
      go_roundw
      case rel => exact ⟨j + 1, by omega, by go_num, hO4.out, by rw [← Nat.add_assoc]; exact hI4'.out, hT5.out⟩
      case measure => simp [intOf]; omega
    · obtain rfl : j = L := by omega
      have ht : ps.take j = ps := by rw [← hL'.out]; exact List.take_length
      have hdr : ps.drop j = [] := by rw [← hL'.out]; exact List.drop_length
      rw [ht, hdr, List.append_nil] at hO
      rw [ht] at hI2
      have hO' := Lib.hid hO
      have hI2' := Lib.hid hI2
      clear hO hI2 ht hdr
      go_wp2_with fail
      go_ret
      exact ⟨_, rfl, hO'.out, by rw [hL'.out, hM'.out]; exact hI2'.out, hT'.out⟩
end Go.Proofs.YtpiekdcbjkgipaaGreat

/- Package term: a term with the numbers that its locals get. -/
namespace Go.Proofs.YtpiekdcbjkgipaaGreat
open Go.ChangeShapes Go.WideShapes Go.ChangeAt Go.RowKit Go.Deep
open TM (Tl Tm)

/-- cells of terms that can be read -/
def TRaw (w : World) : Tl → List Value → Prop
  | .nil, cs => cs = []
  | .cons k n s ps d ks r, cs => ∃ vp vi vk c2, cs = tcells ⟨k, n, s, ps, d, ks⟩ vp vi vk ++ c2 ∧ TmIn w ⟨k, n, s, ps, d, ks⟩ vp vi vk ∧ TRaw w r c2
theorem TRaw.len {w : World} : ∀ {t : Tl} {cs : List Value}, TRaw w t cs → cs.length = t.len * 9
  | .nil, cs, h => by rw [show cs = [] from h]; simp [Tl.len]
  | .cons _ _ _ _ _ _ r, cs, ⟨vp, vi, vk, c2, h1, h2, h3⟩ => by
    have := TRaw.len h3
    rw [h1, List.length_append, this, Tl.len]
    simp [tcells]; omega
theorem TRaw.one {w : World} : ∀ {t : Tl} {cs : List Value}, TRaw w t cs → ∀ u ∈ cs, u.oneCell' = true
  | .nil, cs, h => by rw [show cs = [] from h]; simp
  | .cons _ _ _ _ _ _ r, cs, ⟨vp, vi, vk, c2, h1, h2, h3⟩ => by
    intro u hu
    rw [h1] at hu
    obtain ⟨P, p, rfl⟩ := h2.p.read
    obtain ⟨I, q, rfl⟩ := h2.d.read
    obtain ⟨K, r, rfl⟩ := h2.k.read
    rcases List.mem_append.1 hu with hu | hu
    · simp only [tcells, List.mem_cons, List.not_mem_nil, or_false] at hu
      rcases hu with rfl | rfl | rfl | rfl | rfl | rfl | rfl | rfl | rfl <;> rfl
    · exact TRaw.one h3 u hu
theorem TInAt.raw {w : World} : ∀ {t : Tl} {b o : Nat}, TInAt w t b o → ∃ cs, TRaw w t cs ∧ ∀ j u, cs[j]? = some u → w.cell? ⟨b, o + j, none⟩ = some u
  | .nil, b, o, _ => ⟨[], rfl, fun j u h => by simp at h⟩
  | .cons k n s ps d ks r, b, o, ⟨h0, h1, h2, h3, ⟨v, h4, hp⟩, h5, h6, h7, ⟨u, h8, hi⟩, ⟨A, c, h9, hl, b', o', hA, hk⟩, hr⟩ => by
    obtain ⟨c2, g1, g2⟩ := TInAt.raw hr
    refine ⟨tcells ⟨k, n, s, ps, d, ks⟩ v u (.slice A ks.len c) ++ c2, ⟨v, u, _, c2, rfl, ⟨hp, hi, A, c, rfl, hl, b', o', hA, hk⟩, g1⟩, fun j x hx => ?_⟩
    by_cases hj : j < 9
    · rw [List.getElem?_append_left (by simp [tcells]; omega)] at hx
      rcases (show j = 0 ∨ j = 1 ∨ j = 2 ∨ j = 3 ∨ j = 4 ∨ j = 5 ∨ j = 6 ∨ j = 7 ∨ j = 8 by omega) with rfl | rfl | rfl | rfl | rfl | rfl | rfl | rfl | rfl
      all_goals
        simp [tcells] at hx
        subst hx
        assumption
    · rw [List.getElem?_append_right (by simp [tcells]; omega)] at hx
      have := g2 _ x hx
      rw [show o + 9 + (j - (tcells ⟨k, n, s, ps, d, ks⟩ v u (.slice A ks.len c)).length) = o + j by simp [tcells]; omega] at this
      exact this
theorem TIn.raw {w : World} {A : Option Addr} {n c : Nat} {t : Tl} (h : TIn w (.slice A n c) t) : ∃ cs, Raw w A n 9 cs ∧ TRaw w t cs := by
  obtain ⟨A', c', e, hl, b, o, h1, h2⟩ := h
  injection e with e1 e2 e3
  subst e1 e2
  obtain ⟨cs, g1, g2⟩ := h2.raw
  refine ⟨cs, ⟨g1.len, fun hn => ?_, fun a ha j u hu => ?_, g1.one⟩, g1⟩
  · by_cases h0 : 0 < t.len
    · have := h1 h0
      rw [hn] at this; cases this
    · omega
  · have hj := (List.getElem?_eq_some_iff.1 hu).1
    have hlen := g1.len
    have := h1 (by omega)
    rw [ha] at this
    injection this with this
    subst this
    have := g2 j u hu
    rw [add_plain]
    exact this
theorem TRaw.agr {w w' : World} (k : Agr (fun g => g < w.heap.size) w w') : ∀ {t : Tl} {cs : List Value}, TRaw w t cs → TRaw w' t cs
  | .nil, _, h => h
  | .cons _ _ _ _ _ _ _, _, ⟨vp, vi, vk, c2, h1, h2, h3⟩ => ⟨vp, vi, vk, c2, h1, h2.agr k, TRaw.agr k h3⟩
/-- the cells of the term at a place, and those behind it -/
theorem TRaw.at_ {w : World} : ∀ {t : Tl} {cs : List Value} {i : Nat} {x : Tm}, TRaw w (t.dr i) cs → t.at_ i = some x → ∃ vp vi vk c2, cs = tcells x vp vi vk ++ c2 ∧ TmIn w x vp vi vk ∧ TRaw w (t.dr (i + 1)) c2 := by
  intro t cs i x h hx
  rw [Tl.dr_at t i x hx] at h
  exact h
theorem below_drew1 {B : Nat} {a w : World} (h : Below B a w) : Below B a w.drew := ⟨h.os, h.tape, h.output, h.size, h.block⟩
theorem Im.drew {w : World} {q n : Nat} {S : Int → Int} (h : Im w q n S) : Im w.drew q n S := h.turns (Turns.refl (fun _ => False) w).drew (fun h => h)
/-- nine cells of a block are stored anew -/
def nine (w : World) (g o : Nat) (x0 x1 x2 x3 x4 x5 x6 x7 x8 : Value) : World :=
  ((((((((w.setCell ⟨g, o, none⟩ x0).setCell ⟨g, o + 1, none⟩ x1).setCell ⟨g, o + 2, none⟩ x2).setCell ⟨g, o + 3, none⟩ x3).setCell ⟨g, o + 4, none⟩ x4).setCell ⟨g, o + 5, none⟩ x5).setCell ⟨g, o + 6, none⟩ x6).setCell ⟨g, o + 7, none⟩ x7).setCell ⟨g, o + 8, none⟩ x8
theorem nine_turns {a w : World} {X : Nat → Prop} (h : Turns X a w) {g : Nat} (hg : g < a.heap.size → X g) (o : Nat) (x0 x1 x2 x3 x4 x5 x6 x7 x8 : Value) : Turns X a (nine w g o x0 x1 x2 x3 x4 x5 x6 x7 x8) :=
  ((((((((h.setCell (p := ⟨g, o, none⟩) hg _).setCell (p := ⟨g, o + 1, none⟩) hg _).setCell (p := ⟨g, o + 2, none⟩) hg _).setCell (p := ⟨g, o + 3, none⟩) hg _).setCell (p := ⟨g, o + 4, none⟩) hg _).setCell (p := ⟨g, o + 5, none⟩) hg _).setCell (p := ⟨g, o + 6, none⟩) hg _).setCell (p := ⟨g, o + 7, none⟩) hg _).setCell (p := ⟨g, o + 8, none⟩) hg _
theorem set_nine (l r : List Value) (y0 y1 y2 y3 y4 y5 y6 y7 y8 x0 x1 x2 x3 x4 x5 x6 x7 x8 : Value) (o : Nat) (ho : l.length = o) :
    (((((((((l ++ ([y0, y1, y2, y3, y4, y5, y6, y7, y8] ++ r)).set o x0).set (o + 1) x1).set (o + 2) x2).set (o + 3) x3).set (o + 4) x4).set (o + 5) x5).set (o + 6) x6).set (o + 7) x7).set (o + 8) x8 = (l ++ [x0, x1, x2, x3, x4, x5, x6, x7, x8]) ++ r := by
  subst ho
  have e : ∀ (m : List Value) (i : Nat) (x : Value), (l ++ m).set (l.length + i) x = l ++ m.set i x := fun m i x => by
    rw [List.set_append_right _ _ (by omega)]; congr 1; congr 1; omega
  have e0 := e ([y0, y1, y2, y3, y4, y5, y6, y7, y8] ++ r) 0 x0
  rw [Nat.add_zero] at e0
  rw [e0, e, e, e, e, e, e, e, e, List.append_assoc]
  rfl
theorem nine_row {w : World} {B g n c : Nat} {t : TypeId} {l r : List Value} {y0 y1 y2 y3 y4 y5 y6 y7 y8 : Value} {o : Nat} (h : w.ownsRow B t 9 (.slice (some ⟨g, 0, none⟩) n c) n (l ++ ([y0, y1, y2, y3, y4, y5, y6, y7, y8] ++ r))) (ho : l.length = o) (x0 x1 x2 x3 x4 x5 x6 x7 x8 : Value) :
    (nine w g o x0 x1 x2 x3 x4 x5 x6 x7 x8).ownsRow B t 9 (.slice (some ⟨g, 0, none⟩) n c) n ((l ++ [x0, x1, x2, x3, x4, x5, x6, x7, x8]) ++ r) := by
  rw [← set_nine l r y0 y1 y2 y3 y4 y5 y6 y7 y8 x0 x1 x2 x3 x4 x5 x6 x7 x8 o ho]
  exact ((((((((((h.stored o x0).1.stored (o + 1) x1).1.stored (o + 2) x2).1.stored (o + 3) x3).1.stored (o + 4) x4).1.stored (o + 5) x5).1.stored (o + 6) x6).1.stored (o + 7) x7).1.stored (o + 8) x8).1)
theorem nine_far {w : World} {h g : Nat} {t : TypeId} {cs : List Value} (hL : Lies w h t cs) (hne : h ≠ g) (o : Nat) (x0 x1 x2 x3 x4 x5 x6 x7 x8 : Value) : Lies (nine w g o x0 x1 x2 x3 x4 x5 x6 x7 x8) h t cs :=
  ((((((((hL.far (p := ⟨g, o, none⟩) hne _).far (p := ⟨g, o + 1, none⟩) hne _).far (p := ⟨g, o + 2, none⟩) hne _).far (p := ⟨g, o + 3, none⟩) hne _).far (p := ⟨g, o + 4, none⟩) hne _).far (p := ⟨g, o + 5, none⟩) hne _).far (p := ⟨g, o + 6, none⟩) hne _).far (p := ⟨g, o + 7, none⟩) hne _).far (p := ⟨g, o + 8, none⟩) hne _
theorem nine_res {w : World} {h : Nat} {t : TypeId} {y0 y1 y2 y3 y4 y5 y6 y7 y8 : Value} (hL : Lies w h t [y0, y1, y2, y3, y4, y5, y6, y7, y8]) (g : Nat) (e : g = h) (x0 x1 x2 x3 x4 x5 x6 x7 x8 : Value) : Lies (nine w g 0 x0 x1 x2 x3 x4 x5 x6 x7 x8) h t [x0, x1, x2, x3, x4, x5, x6, x7, x8] := by
  subst e
  exact (((((((((hL.stored 0 x0).stored 1 x1).stored 2 x2).stored 3 x3).stored 4 x4).stored 5 x5).stored 6 x6).stored 7 x7).stored 8 x8)
end Go.Proofs.YtpiekdcbjkgipaaGreat
