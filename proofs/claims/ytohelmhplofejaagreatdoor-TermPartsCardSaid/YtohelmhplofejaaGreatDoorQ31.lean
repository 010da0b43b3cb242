/- Package term: term, whatever the kind: a term with the numbers that its locals get. -/
import Derived.Test.YtohelmhplofejaaGreatDoorQ30
import Derived.Deep.RegionHeld3
import Derived.Deep.RegionWith
import Derived.Test.YtohelmhplofejaaGreatDoorQ9
import Derived.Deep.CutRange
import Derived.Test.YtohelmhplofejaaGreatDoorQ28
namespace Go.Proofs.YtohelmhplofejaaGreatDoor
open Go.ChangeShapes Go.WideShapes Go.ChangeAt Go.RowKit Go.Deep
open TM (Tl Tm)

theorem nt_step (k n : Int) (s : List UInt8) (ps : List Int) (d : RM.Dm) (ks : Tl) (hR : ∀ i x, ks.at_ i = some x → NtOk x) : NtOk ⟨k, n, s, ps, d, ks⟩ := by
  by_cases h4 : k = 4
  · subst h4
    exact nt_four n s ps d ks hR
  by_cases h2 : k = 2
  · subst h2
    exact nt_two n s ps d ks hR
  exact nt_other k n s ps d ks hR h4 h2
theorem term_any (t : Tm) : NtOk t := Tl.all_one NtOk nt_step t
end Go.Proofs.YtohelmhplofejaaGreatDoor

/- The reference's Own: a datum in new memory. -/
namespace Go.Proofs.YtohelmhplofejaaGreatDoor
open Go.ChangeShapes Go.WideShapes Go.ChangeAt Go.RowKit

namespace SM
/-- the first data -/
def tk : RM.Dl → Nat → RM.Dl
  | _, 0 => .nil
  | .nil, _ + 1 => .nil
  | .cons k n s is r, i + 1 => .cons k n s is (tk r i)
theorem tk_all : ∀ d : RM.Dl, tk d d.len = d
  | .nil => rfl
  | .cons k n s is r => by rw [RM.Dl.len, tk, tk_all r]
theorem tk_len : ∀ (d : RM.Dl) (i : Nat), i ≤ d.len → (tk d i).len = i
  | .nil, 0, _ => rfl
  | .nil, i + 1, h => by simp [RM.Dl.len] at h
  | .cons k n s is r, 0, _ => rfl
  | .cons k n s is r, i + 1, h => by rw [tk, RM.Dl.len, tk_len r i (by simp only [RM.Dl.len] at h; omega)]
theorem tk_snoc : ∀ (d : RM.Dl) (i : Nat) (x : RM.Dm), d.at_ i = some x → tk d (i + 1) = (tk d i).snoc x
  | .nil, i, x, h => by simp [RM.Dl.at_] at h
  | .cons k n s is r, 0, x, h => by
    simp only [RM.Dl.at_, Option.some.injEq] at h
    subst h
    cases r <;> rfl
  | .cons k n s is r, i + 1, x, h => by
    show RM.Dl.cons k n s is (tk r (i + 1)) = _
    rw [tk_snoc r i x h]; rfl
theorem sz_in {d : RM.Dl} {i : Nat} {x : RM.Dm} (h : d.at_ i = some x) : sz x.is + 1 ≤ sz d := by
  have h2 : ∀ (d : RM.Dl) (i : Nat), sz (dr d i) ≤ sz d := by
    intro d
    induction d with
    | nil => intro i; cases i <;> exact Nat.le_refl _
    | cons k n s is r _ ih =>
      intro i
      cases i with
      | zero => exact Nat.le_refl _
      | succ i => have := ih i; show sz (dr r i) ≤ sz is + 1 + sz r; omega
  have := h2 d i
  rw [sz_at h] at this
  omega
theorem len_sz : ∀ d : RM.Dl, d.len ≤ sz d
  | .nil => Nat.le_refl _
  | .cons k n s is r => by have := len_sz r; simp only [RM.Dl.len, sz]; omega
end SM
theorem went_box' (w : World) (vs : Array Value) (t : TypeId) : Went w (w.alloc (.cells vs t)) := (Below.refl _ w).alloc (Nat.le_refl _) _
def OwnOk (x : RM.Dm) : Prop := ∀ (w : World) (v : Value), In w v x.is → SM.sz x.is ≤ 5000 →
  Calls Tryz.prog 28 #[dtv x v] w fun e w' => ∃ v', e = .returned (dtv x v') ∧ Dat w' (fun g => w.heap.size ≤ g) v' x.is ∧ Went w w'
set_option maxRecDepth 100000 in
set_option maxHeartbeats 8000000 in
theorem own_step (k n : Int) (s : List UInt8) (is : RM.Dl) (hP : ∀ i x, is.at_ i = some x → OwnOk x) : OwnOk ⟨k, n, s, is⟩ := by
  intro w v h1 hsz
  obtain ⟨A1, c1, rfl⟩ := h1.read
  have hlen := h1.len
  simp only at h1 hlen hsz ⊢
  unfold dtv
  simp only
  obtain ⟨N, hN⟩ : ∃ N, is.len = N := ⟨_, rfl⟩
  obtain ⟨Z, hZ⟩ : ∃ Z, SM.sz is = Z := ⟨_, rfl⟩
  rw [hN] at h1 hlen ⊢
  rw [hZ] at hsz
  have hN' := Lib.hid hN
  have hZ' := Lib.hid hZ
  have hP' := Lib.hid hP
  have hL := (Lies.made w 25 #[.int .i64 k, .int .i64 n, .string ⟨s.toArray⟩, .slice A1 N c1]).alloc (.cells #[.int .i64 0, .int .i64 0, .string ⟨#[]⟩, .slice none 0 0] 25)
  have hL2 : Lies ((w.alloc (.cells #[.int .i64 k, .int .i64 n, .string ⟨s.toArray⟩, .slice A1 N c1] 25)).alloc (.cells #[.int .i64 0, .int .i64 0, .string ⟨#[]⟩, .slice none 0 0] 25)) (w.heap.size + 1) 25 [.int .i64 0, .int .i64 0, .string ⟨#[]⟩, .slice none 0 0] := by
    have := Lies.made (w.alloc (.cells #[.int .i64 k, .int .i64 n, .string ⟨s.toArray⟩, .slice A1 N c1] 25)) 25 #[.int .i64 0, .int .i64 0, .string ⟨#[]⟩, .slice none 0 0]
    rwa [show (w.alloc (.cells #[.int .i64 k, .int .i64 n, .string ⟨s.toArray⟩, .slice A1 N c1] 25)).heap.size = w.heap.size + 1 by simp] at this
  have hb0 : Below w.heap.size w ((w.alloc (.cells #[.int .i64 k, .int .i64 n, .string ⟨s.toArray⟩, .slice A1 N c1] 25)).alloc (.cells #[.int .i64 0, .int .i64 0, .string ⟨#[]⟩, .slice none 0 0] 25)) := (went_box' _ _ _).alloc (by simp) _
  clear hN hP hZ
  go_enter Tryz.func28, Tryz.ntmps28
  go_wp2_with fail
  go_loopw [3, 4] (fun v8 i wr => ∃ (j : Nat), j ≤ N ∧ i = .int .i64 j ∧ Its wr (fun g => w.heap.size + 1 < g) v8 (SM.tk is j) ∧ Lies wr w.heap.size 25 [.int .i64 k, .int .i64 n, .string ⟨s.toArray⟩, .slice A1 N c1] ∧ Lies wr (w.heap.size + 1) 25 [.int .i64 0, .int .i64 0, .string ⟨#[]⟩, .slice none 0 0] ∧ Below w.heap.size w wr) (fun _ i _ => N - (intOf i).toNat)
  case atStart => exact ⟨0, by omega, rfl, by rw [show SM.tk is 0 = .nil by cases is <;> rfl]; exact Its.nil _ _, hL, hL2, hb0⟩
  case round =>
    obtain ⟨j, hj, rfl, hI, hM1, hM2, hb⟩ := hrel
    clear hL hL2 hb0
    have y3 : wr.cell? ⟨w.heap.size, 3, none⟩ = some (.slice A1 N c1) := hM1.cell 3
    have hz2 := hM2.lt
    obtain ⟨A8, c8, rfl⟩ := hI.read
    have htl : (SM.tk is j).len = j := SM.tk_len is j (by rw [hN'.out]; exact hj)
    by_cases hlt : j < N
    · obtain ⟨x, hx⟩ := is.at_some j (by rw [hN'.out]; exact hlt)
      obtain ⟨b, o, B, q, rfl, hbl, p0, p1, p2, p3, hd1⟩ := (h1.below hb).at_ hx
      have hup := SM.sz_in hx
      rw [hZ'.out] at hup
      have hjz : j ≤ Z := by
        have := SM.len_sz is
        rw [hN'.out, hZ'.out] at this
        omega
      have hC := Lib.hid (hP'.out j x hx wr (.slice B x.is.len q) hd1 (by omega))
      unfold dtv at hC
      have hsn := SM.tk_snoc is j x hx
      generalize SM.tk is j = out at hI hsn htl ⊢
      have hsn' := Lib.hid hsn
      have hIl2 := Lib.hid hI.lt
      have e8 : Value.slice A8 out.len c8 = .slice A8 j c8 := by rw [htl]
      rw [e8] at hI hIl2
      rw [e8]
      have htl' := Lib.hid htl
      clear hx hup hsn htl e8
      go_wp2_with (first
        | (go_at_call 28
           refine hC.out.mono ?_
           rintro e w3 ⟨v3, rfl, hd3, hb3⟩
           obtain ⟨A3, c3, rfl⟩ := hd3.read
           have hM3 := hM1.below hb3 hM1.lt
           have hM4 := hM2.below hb3 hM2.lt
           have hb4 : Below w.heap.size w w3 := hb.trans (hb3.mono hb.size)
           have hI3 := hI.below hb3
           have hs3 := hb3.size
           have hone : DatAt w3 (fun g => w.heap.size + 1 < g ∧ (Value.slice A8 j c8).ownBlock ≠ some g) (.one x) [.int .i64 x.k, .int .i64 x.n, .string ⟨x.s.toArray⟩, .slice A3 x.is.len c3] :=
             DatAt.cell1 (hd3.mono (fun g _ hs => ⟨by omega, fun hh => by have := (hIl2.out _ hh).2; omega⟩))
           clear hb3 hd3 p0 p1 p2 p3 y3)
        | (at_builtin
           have hIl3 := hI3.lt
           obtain ⟨cs, h1', -, h3⟩ := hI3
           rw [htl'.out] at h1'
           refine wpList_append_row (v := .slice A8 j c8) (x := .slice (some ⟨w3.heap.size, 0, none⟩) 1 1) (.agg #[.int .i64 0, .int .i64 0, .string ⟨#[]⟩, .slice none 0 0]) 56 Tryz.infoDatum rfl (by decide) rfl _ _ 23 rfl Tryz.underlying23 rfl rfl (own_turns h1' ((Turns.refl (fun _ => False) _).alloc _) (fun _ _ h => h)) (own_one (e := 25) (sz := 4) (B := 0) w3 #[.int .i64 x.k, .int .i64 x.n, .string ⟨x.s.toArray⟩, .slice A3 x.is.len c3] rfl (Nat.zero_le _)) (DatAt.one hone) (by omega) (by omega) (by simp) ?_
           intro v9 w9 hown9 hg9 hat9
           have T1 := Turns.appendedS hg9
           have hown9' : w9.ownsRow 0 25 4 v9 (out.len + (RM.Dl.one x).len) (cs ++ [.int .i64 x.k, .int .i64 x.n, .string ⟨x.s.toArray⟩, .slice A3 x.is.len c3]) := by rw [htl'.out]; exact hown9
           have hI9 : Its w9 (fun g => w.heap.size + 1 < g) v9 (out.snoc x) := Its.grew (e := .one x) hIl3 h3 hone ((Turns.refl (fun _ => False) _).alloc _) hown9' hg9 hat9 (fun g _ hs => hs) (by simp; omega)
           have hM5 := (Lies.alloc hM3 _).turns T1 (fun hh => by have := (hIl3 _ hh).1; omega)
           have hM6 := (Lies.alloc hM4 _).turns T1 (fun hh => by have := (hIl3 _ hh).1; omega)
           have hb9 : Below w.heap.size w w9 := (((Turns.of_below hb4 (fun _ => False)).alloc _).then T1 (fun k hk hh => by have := (hIl3 _ hh).1; omega)).below (Nat.le_refl _) (fun _ h => h.elim)
           clear hg9 hat9 hown9 hown9' T1 h1' h3 hone))
      go_roundw
      case rel => exact ⟨j + 1, by omega, by go_num, by rw [hsn'.out]; exact hI9, hM5, hM6, hb9⟩
      case measure => simp [intOf]; omega
    · obtain rfl : j = N := by omega
      have hall : SM.tk is j = is := by rw [← hN'.out]; exact SM.tk_all is
      rw [hall] at hI htl ⊢
      rw [htl] at hI ⊢
      have hL9 := (hM1.stored 3 (.slice A8 j c8))
      have hI9 := hI.dat.turns ((Turns.refl (fun k => k = w.heap.size) wr).setCell (p := ⟨w.heap.size, 3, none⟩) (fun _ => rfl) (.slice A8 j c8)) (fun g _ hs hh => by omega)
      have hM9 := hM2.far (p := ⟨w.heap.size, 3, none⟩) (by simp) (.slice A8 j c8)
      have hb9 : Below w.heap.size w (wr.setCell ⟨w.heap.size, 3, none⟩ (.slice A8 j c8)) := hb.setCell (p := ⟨w.heap.size, 3, none⟩) (Nat.le_refl _) _
      have q0 := hL9.cell 0
      have q1 := hL9.cell 1
      have q2 := hL9.cell 2
      have q3 := hL9.cell 3
      have f1 := hM1.free
      have f2 := hM9.free
      have m0 := hM9.cell 0
      have m1 := hM9.cell 1
      have m2 := hM9.cell 2
      have m3 := hM9.cell 3
      simp only [List.getElem?_cons_zero, List.getElem?_cons_succ, List.set_cons_zero, List.set_cons_succ] at q0 q1 q2 q3 m0 m1 m2 m3
      go_wp2_with fail
      have hF := four_lies hM9 (.int .i64 k) (.int .i64 n) (.string ⟨s.toArray⟩) (.slice A8 j c8)
      have r0 := hF.cell 0
      have r1 := hF.cell 1
      have r2 := hF.cell 2
      have r3 := hF.cell 3
      have hd9 := hI9.turns (four_one (wr.setCell ⟨w.heap.size, 3, none⟩ (.slice A8 j c8)) (w.heap.size + 1) (.int .i64 k) (.int .i64 n) (.string ⟨s.toArray⟩) (.slice A8 j c8)) (fun g _ hs hh => by omega)
      have hb10 := four_below hb9 (g := w.heap.size + 1) (by omega) (.int .i64 k) (.int .i64 n) (.string ⟨s.toArray⟩) (.slice A8 j c8)
      unfold four at r0 r1 r2 r3 hd9 hb10
      simp only [List.getElem?_cons_zero, List.getElem?_cons_succ] at r0 r1 r2 r3
      exact bodyPost_ret (v := .agg #[.int .i64 k, .int .i64 n, .string ⟨s.toArray⟩, .slice A8 j c8]) (by simp [results, Tryz.results28, go_sem, r0, r1, r2, r3]) rfl ⟨_, rfl, hd9.mono (fun g _ hs => by omega), hb10⟩
theorem own_any (x : RM.Dm) : OwnOk x := RM.Dl.all_of OwnOk own_step (.one x) 0 x (by cases x; rfl)
end Go.Proofs.YtohelmhplofejaaGreatDoor

/- Package term: copied, a datum that has its own items. -/
namespace Go.Proofs.YtohelmhplofejaaGreatDoor
open Go.ChangeShapes Go.WideShapes Go.ChangeAt Go.RowKit Go.Deep

/-- cells of data that can be read -/
def DRaw (w : World) : RM.Dl → List Value → Prop
  | .nil, cs => cs = []
  | .cons k n s is r, cs => ∃ v c2, cs = [.int .i64 k, .int .i64 n, .string ⟨s.toArray⟩, v] ++ c2 ∧ In w v is ∧ DRaw w r c2
theorem DRaw.len {w : World} : ∀ {t : RM.Dl} {cs : List Value}, DRaw w t cs → cs.length = t.len * 4
  | .nil, cs, h => by rw [show cs = [] from h]; simp [RM.Dl.len]
  | .cons _ _ _ _ r, cs, ⟨v, c2, h1, h2, h3⟩ => by
    have := DRaw.len h3
    rw [h1, List.length_append, this, RM.Dl.len]
    simp; omega
theorem DRaw.one {w : World} : ∀ {t : RM.Dl} {cs : List Value}, DRaw w t cs → ∀ u ∈ cs, u.oneCell' = true
  | .nil, cs, h => by rw [show cs = [] from h]; simp
  | .cons _ _ _ _ r, cs, ⟨v, c2, h1, h2, h3⟩ => by
    intro u hu
    rw [h1] at hu
    obtain ⟨P, p, rfl⟩ := h2.read
    rcases List.mem_append.1 hu with hu | hu
    · simp only [List.mem_cons, List.not_mem_nil, or_false] at hu
      rcases hu with rfl | rfl | rfl | rfl <;> rfl
    · exact DRaw.one h3 u hu
theorem InAt.raw {w : World} : ∀ {t : RM.Dl} {b o : Nat}, InAt w t b o → ∃ cs, DRaw w t cs ∧ ∀ j u, cs[j]? = some u → w.cell? ⟨b, o + j, none⟩ = some u
  | .nil, b, o, _ => ⟨[], rfl, fun j u h => by simp at h⟩
  | .cons k n s is r, b, o, ⟨h0, h1, h2, h3, ⟨A, c, h9, hl, b', o', hA, hk⟩, hr⟩ => by
    obtain ⟨c2, g1, g2⟩ := InAt.raw hr
    refine ⟨[.int .i64 k, .int .i64 n, .string ⟨s.toArray⟩, .slice A is.len c] ++ c2, ⟨_, c2, rfl, ⟨A, c, rfl, hl, b', o', hA, hk⟩, g1⟩, fun j x hx => ?_⟩
    by_cases hj : j < 4
    · rw [List.getElem?_append_left (by simp; omega)] at hx
      rcases (show j = 0 ∨ j = 1 ∨ j = 2 ∨ j = 3 by omega) with rfl | rfl | rfl | rfl
      all_goals
        simp at hx
        subst hx
        assumption
    · rw [List.getElem?_append_right (by simp; omega)] at hx
      have := g2 _ x hx
      rw [show o + 4 + (j - [Value.int .i64 k, .int .i64 n, .string ⟨s.toArray⟩, .slice A is.len c].length) = o + j by simp; omega] at this
      exact this
theorem In.raw {w : World} {A : Option Addr} {n c : Nat} {t : RM.Dl} (h : In w (.slice A n c) t) : ∃ cs, Raw w A n 4 cs ∧ DRaw w t cs := by
  obtain ⟨A', c', e, hl, b, o, h1, h2⟩ := h
  injection e with e1 e2 e3
  subst e1 e2
  obtain ⟨cs, g1, g2⟩ := h2.raw
  refine ⟨cs, ⟨g1.len, fun hn => ?_, fun a ha j u hu => ?_, g1.one⟩, g1⟩
  · by_cases h0 : 0 < t.len
    · have := h1 h0
      rw [hn] at this; cases this
    · omega
  · have hj := (List.getElem?_eq_some_iff.1 hu).1
    have hlen := g1.len
    have := h1 (by omega)
    rw [ha] at this
    injection this with this
    subst this
    have := g2 j u hu
    rw [add_plain]
    exact this
theorem DRaw.at_ {w : World} : ∀ {t : RM.Dl} {cs : List Value} {i : Nat} {x : RM.Dm}, DRaw w (SM.dr t i) cs → t.at_ i = some x → ∃ v c2, cs = [.int .i64 x.k, .int .i64 x.n, .string ⟨x.s.toArray⟩, v] ++ c2 ∧ In w v x.is ∧ DRaw w (SM.dr t (i + 1)) c2 := by
  intro t cs i x h hx
  rw [SM.dr_at t i x hx] at h
  exact h
/-- four cells of a block are stored anew, from one on -/
def fourO (w : World) (g o : Nat) (x0 x1 x2 x3 : Value) : World := (((w.setCell ⟨g, o, none⟩ x0).setCell ⟨g, o + 1, none⟩ x1).setCell ⟨g, o + 2, none⟩ x2).setCell ⟨g, o + 3, none⟩ x3
theorem fourO_turns {a w : World} {X : Nat → Prop} (h : Turns X a w) {g : Nat} (hg : g < a.heap.size → X g) (o : Nat) (x0 x1 x2 x3 : Value) : Turns X a (fourO w g o x0 x1 x2 x3) :=
  (((h.setCell (p := ⟨g, o, none⟩) hg _).setCell (p := ⟨g, o + 1, none⟩) hg _).setCell (p := ⟨g, o + 2, none⟩) hg _).setCell (p := ⟨g, o + 3, none⟩) hg _
theorem set_four (l r : List Value) (y0 y1 y2 y3 x0 x1 x2 x3 : Value) (o : Nat) (ho : l.length = o) :
    ((((l ++ ([y0, y1, y2, y3] ++ r)).set o x0).set (o + 1) x1).set (o + 2) x2).set (o + 3) x3 = (l ++ [x0, x1, x2, x3]) ++ r := by
  subst ho
  have e : ∀ (m : List Value) (i : Nat) (x : Value), (l ++ m).set (l.length + i) x = l ++ m.set i x := fun m i x => by
    rw [List.set_append_right _ _ (by omega)]; congr 1; congr 1; omega
  have e0 := e ([y0, y1, y2, y3] ++ r) 0 x0
  rw [Nat.add_zero] at e0
  rw [e0, e, e, e, List.append_assoc]
  rfl
theorem fourO_row {w : World} {B g n c : Nat} {t : TypeId} {l r : List Value} {y0 y1 y2 y3 : Value} {o : Nat} (h : w.ownsRow B t 4 (.slice (some ⟨g, 0, none⟩) n c) n (l ++ ([y0, y1, y2, y3] ++ r))) (ho : l.length = o) (x0 x1 x2 x3 : Value) :
    (fourO w g o x0 x1 x2 x3).ownsRow B t 4 (.slice (some ⟨g, 0, none⟩) n c) n ((l ++ [x0, x1, x2, x3]) ++ r) := by
  rw [← set_four l r y0 y1 y2 y3 x0 x1 x2 x3 o ho]
  exact (((((h.stored o x0).1.stored (o + 1) x1).1.stored (o + 2) x2).1.stored (o + 3) x3).1)
theorem fourO_far {w : World} {h g : Nat} {t : TypeId} {cs : List Value} (hL : Lies w h t cs) (hne : h ≠ g) (o : Nat) (x0 x1 x2 x3 : Value) : Lies (fourO w g o x0 x1 x2 x3) h t cs :=
  (((hL.far (p := ⟨g, o, none⟩) hne _).far (p := ⟨g, o + 1, none⟩) hne _).far (p := ⟨g, o + 2, none⟩) hne _).far (p := ⟨g, o + 3, none⟩) hne _
theorem fourO_res {w : World} {h : Nat} {t : TypeId} {y0 y1 y2 y3 : Value} (hL : Lies w h t [y0, y1, y2, y3]) (g : Nat) (e : g = h) (x0 x1 x2 x3 : Value) : Lies (fourO w g 0 x0 x1 x2 x3) h t [x0, x1, x2, x3] := by
  subst e
  exact ((((hL.stored 0 x0).stored 1 x1).stored 2 x2).stored 3 x3)
theorem datAt_len {w : World} {S : Nat → Prop} : ∀ {d : RM.Dl} {cs : List Value}, DatAt w S d cs → cs.length = d.len * 4
  | .nil, cs, h => by rw [show cs = [] from h]; simp [RM.Dl.len]
  | .cons _ _ _ _ r, cs, ⟨v, c1, c2, h1, h2, h3, h4, h5⟩ => by
    have := datAt_len h5
    rw [h1, List.length_append, this, RM.Dl.len]
    simp; omega
def CpN (x : RM.Dm) (w : World) (e : Ending) (w' : World) : Prop := ∃ v', e = .returned (dtv x v') ∧ Dat w' (fun g => w.heap.size ≤ g) v' x.is ∧ Went w w'
def CpOk (x : RM.Dm) : Prop := ∀ (w : World) (v : Value), In w v x.is → SM.sz x.is ≤ 5000 → Calls Tryz.prog 52 #[dtv x v] w (CpN x w)
set_option maxRecDepth 100000 in
set_option maxHeartbeats 8000000 in
theorem cp_step (k n : Int) (s : List UInt8) (is : RM.Dl) (hR : ∀ i x, is.at_ i = some x → CpOk x) : CpOk ⟨k, n, s, is⟩ := by
  intro w v h hsz
  obtain ⟨A1, c1, rfl⟩ := h.read
  have hkl := SM.len_sz is
  simp only at h hsz ⊢
  obtain ⟨csk, hraw, htr⟩ := h.raw
  have hN63 := h.len
  have hCl := Lib.hid (fun (w' : World) (hb' : Below w.heap.size w w') => cloneD A1 is.len c1 csk w' ⟨hraw.1, hraw.2.1, fun a ha j u hu => by
      have h1 := hraw.2.2.1 a ha j u hu
      exact (Agr.of_below hb').all (World.block_lt_of_cell? w _ h1) ▸ h1, hraw.2.2.2⟩ (by omega))
  have hNtR := Lib.hid htr
  obtain ⟨N, hN⟩ : ∃ N, is.len = N := ⟨_, rfl⟩
  unfold dtv
  simp only
  rw [hN] at hCl hN63 ⊢
  have hL := (Lies.made w 25 #[.int .i64 k, .int .i64 n, .string ⟨s.toArray⟩, .slice A1 N c1]).alloc (.cells #[.int .i64 0, .int .i64 0, .string ⟨#[]⟩, .slice none 0 0] 25)
  have hz1 : (w.alloc (.cells #[.int .i64 k, .int .i64 n, .string ⟨s.toArray⟩, .slice A1 N c1] 25)).heap.size = w.heap.size + 1 := by simp
  have hLr := Lies.made (w.alloc (.cells #[.int .i64 k, .int .i64 n, .string ⟨s.toArray⟩, .slice A1 N c1] 25)) 25 #[.int .i64 0, .int .i64 0, .string ⟨#[]⟩, .slice none 0 0]
  rw [hz1] at hLr
  have hba : Below w.heap.size w ((w.alloc (.cells #[.int .i64 k, .int .i64 n, .string ⟨s.toArray⟩, .slice A1 N c1] 25)).alloc (.cells #[.int .i64 0, .int .i64 0, .string ⟨#[]⟩, .slice none 0 0] 25)) := ((Below.refl _ w).alloc (Nat.le_refl _) _).alloc (by simp) _
  have hN' := Lib.hid hN
  have hR' := Lib.hid hR
  have hsz' := Lib.hid hsz
  have hv : Value.slice A1 is.len c1 = .slice A1 N c1 := by rw [hN]
  clear hR hN hz1 hkl htr hraw h hsz hv
  go_enter Tryz.func52, Tryz.ntmps52
  go_wp2_with (
    go_at_call 78
    refine (hCl.out _ hba).mono ?_
    rintro e w5 ⟨v5, rfl, hO5, hb5⟩
    have hM5 := hL.below hb5 hL.lt
    have hMr5 := hLr.below hb5 hLr.lt
    have x3 := hM5.cell 3
    have f3 := hM5.free 3
    have hlt5 := hM5.lt
    obtain ⟨B5, c5, rfl, -⟩ := own_read hO5
    have hM6 := hM5.stored 3 (.slice B5 N c5)
    have hMr6 := hMr5.far (p := ⟨w.heap.size, 3, none⟩) (by simp) (.slice B5 N c5)
    have w3 := hM6.cell 3
    simp only [List.getElem?_cons_succ, List.getElem?_cons_zero, List.set_cons_succ, List.set_cons_zero] at x3 w3)
  simp only [List.set_cons_succ, List.set_cons_zero] at hM6
  have hTs := (Turns.refl (fun k => k = w.heap.size) w5).setCell (p := ⟨w.heap.size, 3, none⟩) (fun _ => rfl) (.slice B5 N c5)
  have hO6 := Lib.hid (own_turns hO5 hTs (fun g hg hh => by have := (World.ownsRow.lt hO5 g hg).1; simp at this; omega))
  have hOz := Lib.hid (fun g hg => (World.ownsRow.lt hO5 g hg))
  have hb6 := (hba.trans (hb5.mono (by simp; omega))).setCell (p := ⟨w.heap.size, 3, none⟩) (Nat.le_refl _) (.slice B5 N c5)
  have hlt4r := hLr.lt
  have hZ5 := hb5.size
  obtain ⟨Z, hZ⟩ : ∃ Z, w5.heap.size = Z := ⟨_, rfl⟩
  rw [hZ] at hZ5
  have hZ' := Lib.hid hZ
  have hb6' := Lib.hid hb6
  clear hO5 hb5 hTs hM5 hMr5 hL hLr hCl hZ hba hb6
  go_loopw [12] (fun i wr => ∃ (j : Nat) (csd csr : List Value), j ≤ N ∧ i = .int .i64 j ∧ wr.ownsRow 0 25 4 (.slice B5 N c5) N (csd ++ csr) ∧ DatAt wr (fun g => Z ≤ g) (SM.tk is j) csd ∧ DRaw w (SM.dr is j) csr
      ∧ Lies wr w.heap.size 25 [.int .i64 k, .int .i64 n, .string ⟨s.toArray⟩, .slice B5 N c5] ∧ Lies wr (w.heap.size + 1) 25 [.int .i64 0, .int .i64 0, .string ⟨#[]⟩, .slice none 0 0] ∧ Below w.heap.size w wr ∧ Z ≤ wr.heap.size) (fun i _ => N - (intOf i).toNat)
  case atStart =>
    refine ⟨0, [], csk, Nat.zero_le _, rfl, own_base hO6.out (Nat.zero_le _), ?_, ?_, hM6, hMr6, hb6'.out, by rw [← hZ'.out]; simp⟩
    · rw [show SM.tk is 0 = .nil by cases is <;> rfl]; rfl
    · rw [SM.dr_zero]; exact hNtR.out
  case round =>
    obtain ⟨j, csd, csr, hj, rfl, hOr, hAt, hRw, hMb, hMr, hbr, hZr⟩ := hrel
    have hOr' := Lib.hid hOr
    have hAt' := Lib.hid hAt
    have hRw' := Lib.hid hRw
    have hbr' := Lib.hid hbr
    have y3 : wr.cell? ⟨w.heap.size, 3, none⟩ = some (.slice B5 N c5) := hMb.cell 3
    clear hM6 hMr6 hOr hAt hRw w3 x3 hbr
    by_cases hlt : j < N
    · obtain ⟨x, hx⟩ := is.at_some j (by rw [hN'.out]; exact hlt)
      obtain ⟨vk5, csq, hcs, hT5, hRw2⟩ := hRw'.out.at_ hx
      obtain ⟨K5, r5, rfl⟩ := hT5.read
      have hcl : csd.length = j * 4 := by
        have h1 := datAt_len hAt'.out
        rw [SM.tk_len is j (by rw [hN'.out]; exact hj)] at h1
        exact h1
      subst hcs
      have hOr2 := hOr'.out
      obtain ⟨A9, c9, e9, hrd⟩ := own_read hOr2
      obtain ⟨g, hB9, -, hg2, hg0⟩ := hrd (j * 4) (by omega)
      have hB5 : B5 = some ⟨g, 0, none⟩ := by injection e9 with e; rw [e, hB9]
      subst hB5
      have rc : ∀ i u, [Value.int .i64 x.k, .int .i64 x.n, .string ⟨x.s.toArray⟩, .slice K5 x.is.len r5][i]? = some u → i < 4 → wr.cell? ⟨g, j * 4 + i, none⟩ = some u := fun i u hu hi => by
        rw [hOr2.cellAt (j * 4 + i) (by omega), List.getElem?_append_right (by omega), hcl, Nat.add_sub_cancel_left, List.getElem?_append_left (by simp; omega)]
        exact hu
      have c10 := rc 0 _ rfl (by omega)
      have c11 := rc 1 _ rfl (by omega)
      have c12 := rc 2 _ rfl (by omega)
      have c13 := rc 3 _ rfl (by omega)
      rw [Nat.add_zero] at c10
      have hfrz : ∀ i, wr.frozen? ⟨g, i, none⟩ = false := fun i => hOr2.frozenAt i
      have hgz : g < Z := by rw [← hZ'.out]; exact (hOz.out g rfl).2
      have hgw : w.heap.size + 1 < g := by have := (hOz.out g rfl).1; simp at this; omega
      have htk := SM.tk_snoc is j x hx
      have hzx : SM.sz x.is ≤ 5000 := by have h1 := SM.sz_in hx; have := hsz'.out; omega
      have hC := Lib.hid (fun (w' : World) (hb' : Below w.heap.size w w') => hR'.out j x hx w' _ (hT5.below hb') hzx)
      have hKa : Below wr.heap.size wr (wr.alloc (.cells #[.int .i64 x.k, .int .i64 x.n, .string ⟨x.s.toArray⟩, .slice K5 x.is.len r5] 25)) := (Below.refl _ wr).alloc (Nat.le_refl _) _
      have hkb := hbr'.out.trans (hKa.mono hbr'.out.size)
      unfold CpN dtv at hC
      have htk' := Lib.hid htk
      have hRw3 := Lib.hid hRw2
      have hcl' := Lib.hid hcl
      have hOr3 := Lib.hid hOr2
      have hKa' := Lib.hid hKa
      clear rc hrd htk hzx hT5 hRw2 hcl hx hOr2 hB9 hg0 hRw' e9 hOr' hKa
      go_wp2_with fail
      have hkb2 := below_drew1 hkb
      have hbw : w.heap.size < wr.heap.size := by omega
      go_region_with (
        go_at_call 52
        refine (hC.out _ hkb2).mono ?_
        rintro e w7 ⟨vk6, rfl, hTo, hb7⟩
        obtain ⟨K6, n6, r6, rfl⟩ : ∃ A m c, vk6 = .slice A m c := by obtain ⟨A, c, e⟩ := hTo.read; exact ⟨_, _, _, e⟩
        have Tb := (Turns.of_below hKa'.out (fun _ => False)).drew.then (Turns.of_below hb7 (fun _ => False)) (fun _ _ h => h)
        have hMb7 := hMb.turns Tb (fun h => h)
        have k3 : w7.cell? ⟨w.heap.size, 3, none⟩ = some (.slice (some ⟨g, 0, none⟩) N c5) := hMb7.cell 3
        have hOr7 := own_turns hOr3.out Tb (fun _ _ h => h)
        have hfr7 : ∀ i, w7.frozen? ⟨g, i, none⟩ = false := fun i => hOr7.frozenAt i
        have rc7 : ∀ i u, [Value.int .i64 x.k, .int .i64 x.n, .string ⟨x.s.toArray⟩, .slice K5 x.is.len r5][i]? = some u → i < 4 → w7.cell? ⟨g, j * 4 + i, none⟩ = some u := fun i u hu hi => by
          rw [hOr7.cellAt (j * 4 + i) (by omega), List.getElem?_append_right (by rw [hcl'.out]; omega), hcl'.out, Nat.add_sub_cancel_left, List.getElem?_append_left (by simp; omega)]
          exact hu
        have e10 := rc7 0 _ rfl (by omega)
        have e11 := rc7 1 _ rfl (by omega)
        have e12 := rc7 2 _ rfl (by omega)
        have e13 := rc7 3 _ rfl (by omega)
        rw [Nat.add_zero] at e10
        have R7 := Lib.hid (And.intro hTo (And.intro hb7 (And.intro Tb (And.intro hOr7 hMb7))))
        clear hTo hb7 Tb hMb7 hOr7 rc7)
      all_goals
        clear k3 hfr7 e10 e11 e12 e13
        obtain ⟨hTo, hb7, Tb, hOr7, hMb7⟩ := R7.out
        have T9 := fourO_turns (Tb.mono (Y := fun k => k = g) (fun _ _ h => h.elim)) (g := g) (fun _ => rfl) (j * 4) (.int .i64 x.k) (.int .i64 x.n) (.string ⟨x.s.toArray⟩) (.slice K6 n6 r6)
        have T7 := fourO_turns (Turns.refl (fun k => k = g) w7) (g := g) (fun _ => rfl) (j * 4) (.int .i64 x.k) (.int .i64 x.n) (.string ⟨x.s.toArray⟩) (.slice K6 n6 r6)
        have hMbf := Lib.hid (fourO_far hMb7 (g := g) (by omega) (j * 4) (.int .i64 x.k) (.int .i64 x.n) (.string ⟨x.s.toArray⟩) (.slice K6 n6 r6))
        have hOf := Lib.hid (fourO_row hOr7 hcl'.out (.int .i64 x.k) (.int .i64 x.n) (.string ⟨x.s.toArray⟩) (.slice K6 n6 r6))
        have hTo9 : Dat _ (fun g' => Z ≤ g') _ x.is := Dat.mono (Dat.turns hTo T7 (fun g' _ hs he => by simp at hs; omega)) (fun g' _ hs => by simp at hs; omega)
        have hAw := DatAt.turns T9 (fun g' hg' hs he => by omega) hAt'.out
        have hAf := Lib.hid (DatAt.app hAw (DatAt.cell1 (d := x) hTo9))
        have hMrf := Lib.hid (hMr.turns T9 (fun he => by omega))
        have hbf := Lib.hid ((Turns.of_below hbr'.out (fun _ => False)).then T9 (fun i hi he => by omega))
        have hZf := Lib.hid (Nat.le_trans hZr T9.size)
        clear hTo hb7 Tb hMb7 hOr7 T9 T7 hTo9 hAw R7
        go_wp2_with fail
        go_roundw
        case rel =>
          refine ⟨j + 1, _, csq, by omega, by go_num, hOf.out, ?_, hRw3.out, hMbf.out, hMrf.out, hbf.out.below (Nat.le_refl _) (fun _ h => h.elim), hZf.out⟩
          rw [htk'.out]; exact hAf.out
        case measure => simp [intOf]; omega
    · obtain rfl : j = N := by omega
      have hcr : csr = [] := by have h := hRw'.out; rw [SM.dr_end is j (by rw [hN'.out]; exact Nat.le_refl _)] at h; exact h
      have hall : SM.tk is j = is := by rw [← hN'.out]; exact SM.tk_all is
      subst hcr
      have hOr2 := hOr'.out
      rw [List.append_nil] at hOr2
      have hOr3 := Lib.hid hOr2
      have hall' := Lib.hid hall
      have z0 := hMb.cell 0
      have z1 := hMb.cell 1
      have z2 := hMb.cell 2
      have z3 := hMb.cell 3
      have fz0 := hMr.free 0
      have fz1 := hMr.free 1
      have fz2 := hMr.free 2
      have fz3 := hMr.free 3
      have cz0 := hMr.cell 0
      have cz1 := hMr.cell 1
      have cz2 := hMr.cell 2
      have cz3 := hMr.cell 3
      have hltr := hMr.lt
      simp only [List.getElem?_cons_succ, List.getElem?_cons_zero] at z0 z1 z2 z3 cz0 cz1 cz2 cz3
      clear hOr2 hall y3 hOr' hRw'
      go_wp2_with fail
      have Tz := fourO_turns (Turns.refl (fun k => k = w.heap.size + 1) wr) (g := w.heap.size + 1) (fun _ => rfl) 0 (.int .i64 k) (.int .i64 n) (.string ⟨s.toArray⟩) (.slice B5 j c5)
      have hTz := (Turns.of_below hbr'.out (fun _ => False)).then Tz (fun i hi he => by omega)
      have hMz := fourO_res hMr (w.heap.size + 1) rfl (.int .i64 k) (.int .i64 n) (.string ⟨s.toArray⟩) (.slice B5 j c5)
      have rz0 := hMz.cell 0
      have rz1 := hMz.cell 1
      have rz2 := hMz.cell 2
      have rz3 := hMz.cell 3
      unfold fourO at rz0 rz1 rz2 rz3
      simp only [List.getElem?_cons_succ, List.getElem?_cons_zero, Nat.zero_add] at rz0 rz1 rz2 rz3
      refine bodyPost_ret (v := .agg #[.int .i64 k, .int .i64 n, .string ⟨s.toArray⟩, .slice B5 j c5]) (by simp [results, Tryz.results52, go_sem, rz0, rz1, rz2, rz3]) rfl ⟨.slice B5 j c5, rfl, ⟨csd, ?_, ?_, ?_⟩, hTz.below (Nat.le_refl _) (fun _ h => h.elim)⟩
      · have h1 := own_turns hOr3.out Tz (fun g' hg' he => by have h1 := hOz.out g' hg'; simp at h1; omega)
        show World.ownsRow _ 0 _ 4 _ is.len csd
        rw [hN'.out]
        exact h1
      · intro g' hg'
        have h1 := hOz.out g' hg'
        simp at h1 ⊢
        omega
      · have h1 := hAt'.out
        rw [hall'.out] at h1
        have h2 := DatAt.turns Tz (fun g' hg' hs he => by simp at hZ5; omega) h1
        exact DatAt.mono (fun g' hg' hs => by simp at hZ5; omega) h2
theorem copied_any (x : RM.Dm) : CpOk x := RM.Dl.all_of CpOk cp_step (.one x) 0 x (by cases x; rfl)
end Go.Proofs.YtohelmhplofejaaGreatDoor
