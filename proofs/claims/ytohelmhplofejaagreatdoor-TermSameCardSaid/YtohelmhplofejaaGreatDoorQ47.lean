/- The law TermSame, walked. -/
import Derived.Test.YtohelmhplofejaaGreatDoorQ43
import Derived.Test.YtohelmhplofejaaGreatDoorQ45
import Derived.Test.YtohelmhplofejaaGreatDoorQ46
import Derived.Test.YtohelmhplofejaaGreatDoorQ42
namespace Go.Proofs.YtohelmhplofejaaGreatDoor
open Go.ChangeShapes Go.WideShapes Go.ChangeAt Go.RowKit Go.Deep
open TM (Tl Tm)

set_option maxRecDepth 100000 in
set_option maxHeartbeats 8000000 in
theorem termSame_no (hSame : SameAny) (t u : Tm) (w : World) (vp vi vk xp xi xk : Value) (h : TmIn w t vp vi vk) (hu : TmIn w u xp xi xk) (hB : TmBd t) (hT : Tab w) (hno : ¬ (TM.smt t = true ∧ TM.smt u = true ∧ TM.okt t = true)) :
    Calls Tryz.prog 5 #[tmv t vp vi vk, tmv u xp xi xk] w fun e w' => e = .returned (.bool true) ∧ Below w.heap.size w w' := by
  have hA := Lib.hid (fun (w' : World) (hb : Below w.heap.size w w') => awake10_of hSame w' (hT.on hb))
  have hS := Lib.hid (fun (w' : World) (hb : Below w.heap.size w w') => tsmall_any t w' vp vi vk (h.below hb))
  have hV := Lib.hid (fun (w' : World) (hb : Below w.heap.size w w') => tsmall_any u w' xp xi xk (hu.below hb))
  have hR := Lib.hid (fun (w' : World) (hb : Below w.heap.size w w') (hs : TM.smt t = true) => tright_any t w' vp vi vk (h.below hb) hB (smt_facts hs).2.2)
  unfold tmv at hS hV hR
  unfold tmv
  have hL1 := (Lies.made w 28 #[.int .i64 t.k, .int .i64 t.n, .string ⟨t.s.toArray⟩, vp, .int .i64 t.d.k, .int .i64 t.d.n, .string ⟨t.d.s.toArray⟩, vi, vk]).alloc (.cells #[.int .i64 u.k, .int .i64 u.n, .string ⟨u.s.toArray⟩, xp, .int .i64 u.d.k, .int .i64 u.d.n, .string ⟨u.d.s.toArray⟩, xi, xk] 28)
  have hz1 : (w.alloc (.cells #[.int .i64 t.k, .int .i64 t.n, .string ⟨t.s.toArray⟩, vp, .int .i64 t.d.k, .int .i64 t.d.n, .string ⟨t.d.s.toArray⟩, vi, vk] 28)).heap.size = w.heap.size + 1 := by simp
  have hL2 := Lies.made (w.alloc (.cells #[.int .i64 t.k, .int .i64 t.n, .string ⟨t.s.toArray⟩, vp, .int .i64 t.d.k, .int .i64 t.d.n, .string ⟨t.d.s.toArray⟩, vi, vk] 28)) 28 #[.int .i64 u.k, .int .i64 u.n, .string ⟨u.s.toArray⟩, xp, .int .i64 u.d.k, .int .i64 u.d.n, .string ⟨u.d.s.toArray⟩, xi, xk]
  rw [hz1] at hL2
  have hb0 : Below w.heap.size w ((w.alloc (.cells #[.int .i64 t.k, .int .i64 t.n, .string ⟨t.s.toArray⟩, vp, .int .i64 t.d.k, .int .i64 t.d.n, .string ⟨t.d.s.toArray⟩, vi, vk] 28)).alloc (.cells #[.int .i64 u.k, .int .i64 u.n, .string ⟨u.s.toArray⟩, xp, .int .i64 u.d.k, .int .i64 u.d.n, .string ⟨u.d.s.toArray⟩, xi, xk] 28)) := ((Below.refl _ w).alloc (Nat.le_refl _) _).alloc (by simp) _
  obtain ⟨W2, hW2⟩ : ∃ W2, ((w.alloc (.cells #[.int .i64 t.k, .int .i64 t.n, .string ⟨t.s.toArray⟩, vp, .int .i64 t.d.k, .int .i64 t.d.n, .string ⟨t.d.s.toArray⟩, vi, vk] 28)).alloc (.cells #[.int .i64 u.k, .int .i64 u.n, .string ⟨u.s.toArray⟩, xp, .int .i64 u.d.k, .int .i64 u.d.n, .string ⟨u.d.s.toArray⟩, xi, xk] 28)) = W2 := ⟨_, rfl⟩
  rw [hW2] at hL1 hL2 hb0
  obtain ⟨st, hst⟩ : ∃ b, TM.smt t = b := ⟨_, rfl⟩
  obtain ⟨su, hsu⟩ : ∃ b, TM.smt u = b := ⟨_, rfl⟩
  obtain ⟨ok, hok⟩ : ∃ b, TM.okt t = b := ⟨_, rfl⟩
  rw [hst, hsu, hok] at hno
  rw [hst] at hS hR
  rw [hsu] at hV
  rw [hok] at hR
  clear h hu hB hT hSame hst hsu hok hz1
  cases st
  · have hz := hS
    go_enter Tryz.func5, Tryz.ntmps5
    go_wp2_with (first
      | (go_at_call 7
         with_reducible refine (hA.out _ hb0).mono ?_
         rintro e w1 ⟨rfl, hb1⟩
         have hM1 := hL1.below hb1 hL1.lt
         have hO1 := hL2.below hb1 hL2.lt
         have c1 := hb0.trans (Below.mono hb1 hb0.size)
         have z0 := hM1.cell 0
         have z1 := hM1.cell 1
         have z2 := hM1.cell 2
         have z3 := hM1.cell 3
         have z4 := hM1.cell 4
         have z5 := hM1.cell 5
         have z6 := hM1.cell 6
         have z7 := hM1.cell 7
         have z8 := hM1.cell 8
         simp only [List.getElem?_cons_succ, List.getElem?_cons_zero] at z0 z1 z2 z3 z4 z5 z6 z7 z8
         clear hb1)
      | (go_at_call 8
         with_reducible refine (hS.out _ c1).mono ?_
         rintro e w2 ⟨rfl, hb2⟩
         have hM2 := hM1.below hb2 hM1.lt
         have hO2 := hO1.below hb2 hO1.lt
         have c2 := c1.trans (Below.mono hb2 c1.size)
         have y0 := hO2.cell 0
         have y1 := hO2.cell 1
         have y2 := hO2.cell 2
         have y3 := hO2.cell 3
         have y4 := hO2.cell 4
         have y5 := hO2.cell 5
         have y6 := hO2.cell 6
         have y7 := hO2.cell 7
         have y8 := hO2.cell 8
         simp only [List.getElem?_cons_succ, List.getElem?_cons_zero] at y0 y1 y2 y3 y4 y5 y6 y7 y8
         clear hb2 z0 z1 z2 z3 z4 z5 z6 z7 z8)
      | (go_at_call 7; with_reducible refine (hA.out _ c2).mono ?_; rintro e w5 ⟨rfl, hb5⟩))
    go_ret
    exact ⟨rfl, c2.trans (Below.mono hb5 c2.size)⟩
  · cases su
    · have hz := hS
      go_enter Tryz.func5, Tryz.ntmps5
      go_wp2_with (first
        | (go_at_call 7
           with_reducible refine (hA.out _ hb0).mono ?_
           rintro e w1 ⟨rfl, hb1⟩
           have hM1 := hL1.below hb1 hL1.lt
           have hO1 := hL2.below hb1 hL2.lt
           have c1 := hb0.trans (Below.mono hb1 hb0.size)
           have z0 := hM1.cell 0
           have z1 := hM1.cell 1
           have z2 := hM1.cell 2
           have z3 := hM1.cell 3
           have z4 := hM1.cell 4
           have z5 := hM1.cell 5
           have z6 := hM1.cell 6
           have z7 := hM1.cell 7
           have z8 := hM1.cell 8
           simp only [List.getElem?_cons_succ, List.getElem?_cons_zero] at z0 z1 z2 z3 z4 z5 z6 z7 z8
           clear hb1)
        | (go_at_call 8
           with_reducible refine (hS.out _ c1).mono ?_
           rintro e w2 ⟨rfl, hb2⟩
           have hM2 := hM1.below hb2 hM1.lt
           have hO2 := hO1.below hb2 hO1.lt
           have c2 := c1.trans (Below.mono hb2 c1.size)
           have y0 := hO2.cell 0
           have y1 := hO2.cell 1
           have y2 := hO2.cell 2
           have y3 := hO2.cell 3
           have y4 := hO2.cell 4
           have y5 := hO2.cell 5
           have y6 := hO2.cell 6
           have y7 := hO2.cell 7
           have y8 := hO2.cell 8
           simp only [List.getElem?_cons_succ, List.getElem?_cons_zero] at y0 y1 y2 y3 y4 y5 y6 y7 y8
           clear hb2 z0 z1 z2 z3 z4 z5 z6 z7 z8)
        | (go_at_call 8
           with_reducible refine (hV.out _ c2).mono ?_
           rintro e w3 ⟨rfl, hb3⟩
           have hM3 := hM2.below hb3 hM2.lt
           have hO3 := hO2.below hb3 hO2.lt
           have c3 := c2.trans (Below.mono hb3 c2.size)
           have q0 := hM3.cell 0
           have q1 := hM3.cell 1
           have q2 := hM3.cell 2
           have q3 := hM3.cell 3
           have q4 := hM3.cell 4
           have q5 := hM3.cell 5
           have q6 := hM3.cell 6
           have q7 := hM3.cell 7
           have q8 := hM3.cell 8
           simp only [List.getElem?_cons_succ, List.getElem?_cons_zero] at q0 q1 q2 q3 q4 q5 q6 q7 q8
           clear hb3 y0 y1 y2 y3 y4 y5 y6 y7 y8)
        | (go_at_call 7; with_reducible refine (hA.out _ c3).mono ?_; rintro e w5 ⟨rfl, hb5⟩))
      go_ret
      exact ⟨rfl, c3.trans (Below.mono hb5 c3.size)⟩
    · obtain rfl : ok = false := by cases ok <;> simp_all
      go_enter Tryz.func5, Tryz.ntmps5
      go_wp2_with (first
        | (go_at_call 7
           with_reducible refine (hA.out _ hb0).mono ?_
           rintro e w1 ⟨rfl, hb1⟩
           have hM1 := hL1.below hb1 hL1.lt
           have hO1 := hL2.below hb1 hL2.lt
           have c1 := hb0.trans (Below.mono hb1 hb0.size)
           have z0 := hM1.cell 0
           have z1 := hM1.cell 1
           have z2 := hM1.cell 2
           have z3 := hM1.cell 3
           have z4 := hM1.cell 4
           have z5 := hM1.cell 5
           have z6 := hM1.cell 6
           have z7 := hM1.cell 7
           have z8 := hM1.cell 8
           simp only [List.getElem?_cons_succ, List.getElem?_cons_zero] at z0 z1 z2 z3 z4 z5 z6 z7 z8
           clear hb1)
        | (go_at_call 8
           with_reducible refine (hS.out _ c1).mono ?_
           rintro e w2 ⟨rfl, hb2⟩
           have hM2 := hM1.below hb2 hM1.lt
           have hO2 := hO1.below hb2 hO1.lt
           have c2 := c1.trans (Below.mono hb2 c1.size)
           have y0 := hO2.cell 0
           have y1 := hO2.cell 1
           have y2 := hO2.cell 2
           have y3 := hO2.cell 3
           have y4 := hO2.cell 4
           have y5 := hO2.cell 5
           have y6 := hO2.cell 6
           have y7 := hO2.cell 7
           have y8 := hO2.cell 8
           simp only [List.getElem?_cons_succ, List.getElem?_cons_zero] at y0 y1 y2 y3 y4 y5 y6 y7 y8
           clear hb2 z0 z1 z2 z3 z4 z5 z6 z7 z8)
        | (go_at_call 8
           with_reducible refine (hV.out _ c2).mono ?_
           rintro e w3 ⟨rfl, hb3⟩
           have hM3 := hM2.below hb3 hM2.lt
           have hO3 := hO2.below hb3 hO2.lt
           have c3 := c2.trans (Below.mono hb3 c2.size)
           have q0 := hM3.cell 0
           have q1 := hM3.cell 1
           have q2 := hM3.cell 2
           have q3 := hM3.cell 3
           have q4 := hM3.cell 4
           have q5 := hM3.cell 5
           have q6 := hM3.cell 6
           have q7 := hM3.cell 7
           have q8 := hM3.cell 8
           simp only [List.getElem?_cons_succ, List.getElem?_cons_zero] at q0 q1 q2 q3 q4 q5 q6 q7 q8
           clear hb3 y0 y1 y2 y3 y4 y5 y6 y7 y8)
        | (go_at_call 13
           refine (hR.out _ c3 (by first | rfl | trivial)).mono ?_
           rintro e w4 ⟨rfl, hb4⟩
           have c4 := c3.trans (Below.mono hb4 c3.size))
        | (go_at_call 7; with_reducible refine (hA.out _ c4).mono ?_; rintro e w5 ⟨rfl, hb5⟩))
      go_ret
      exact ⟨rfl, c4.trans (Below.mono hb5 c4.size)⟩
end Go.Proofs.YtohelmhplofejaaGreatDoor

/- The laws of layer 10, Same being what it is. -/
namespace Go.Proofs.YtohelmhplofejaaGreatDoor
open Go.RowKit
open TM (Tl Tm)

theorem same_as : SameAny := fun a b w u1 u2 u3 v1 v2 v3 h1 h2 b1 b2 => tsame_any a b w u1 u2 u3 v1 v2 v3 h1 h2 b1 b2
theorem termChecks_walk (t : Tm) (w : World) (vp vi vk : Value) (h : TmIn w t vp vi vk) (hB : TmBd t) (hT : Tab w) :
    Calls Tryz.prog 3 #[tmv t vp vi vk] w fun e w' => e = .returned (.bool true) ∧ Below w.heap.size w w' := termChecks_of same_as t w vp vi vk h hB hT
end Go.Proofs.YtohelmhplofejaaGreatDoor

/- The law TermSame: what shifted answers is bounded; what lies there while the law goes on; the callees' contracts as it takes them. -/
namespace Go.Proofs.YtohelmhplofejaaGreatDoor
open Go.ChangeShapes Go.WideShapes Go.ChangeAt Go.RowKit Go.Deep
open TM (Tl Tm)

theorem TBd.sh {by_ : Int} (h0 : 0 ≤ by_) (h1 : by_ ≤ 2199023255553) : ∀ {d : Tl}, TBd d → TM.shb d → TBd (TM.ren (fun a => by_ - a) d)
  | .nil, _, _ => trivial
  | .cons k n s ps d ks r, ⟨b1, b2, b3, b4, b5, b6, b7, b8⟩, ⟨s1, s2, s3, s4⟩ => by
    refine ⟨b1, ?_, ?_, b4, b5, b6, TBd.sh h0 h1 b7 s3, TBd.sh h0 h1 b8 s4⟩
    · split
      · rename_i hk
        have := s1 hk
        show -9223372036854775808 ≤ by_ - n ∧ by_ - n ≤ 9223372036854775807
        omega
      · exact b2
    · intro p hp
      simp only [List.mem_map] at hp
      obtain ⟨a, ha, rfl⟩ := hp
      have := s2 a ha
      show -9223372036854775808 ≤ by_ - a ∧ by_ - a ≤ 9223372036854775807
      omega
theorem TmBd.sh {by_ : Int} (h0 : 0 ≤ by_) (h1 : by_ ≤ 2199023255553) {t : Tm} (h : TmBd t) (hs : TM.sh1 t) : TmBd (TM.sh by_ t) := by
  obtain ⟨s1, s2, s3⟩ := hs
  refine ⟨h.k, ?_, ?_, h.dk, h.dn, h.d, TBd.sh h0 h1 h.ks s3⟩
  · show b64 (if t.k = 2 ∨ t.k = 4 then by_ - t.n else t.n)
    split
    · rename_i hk
      have := s1 hk
      show -9223372036854775808 ≤ by_ - t.n ∧ by_ - t.n ≤ 9223372036854775807
      omega
    · exact h.n
  · intro p hp
    have hp' : p ∈ t.ps.map (fun a => by_ - a) := hp
    simp only [List.mem_map] at hp'
    obtain ⟨a, ha, rfl⟩ := hp'
    have := s2 a ha
    show -9223372036854775808 ≤ by_ - a ∧ by_ - a ≤ 9223372036854775807
    omega
/-- shifted, of a term of one's own made since a world -/
theorem shx_any {B : Nat} {t : Tm} {w0 w : World} {v1 v2 v3 : Value} (hb : Below w0.heap.size w0 w) (hn : NewT B w t v1 v2 v3) (hB : w0.heap.size ≤ B) {by_ : Int} (h0 : 0 ≤ by_) (h1 : by_ ≤ 2199023255553) (hs : TM.sh1 t) :
    Calls Tryz.prog 24 #[tmv t v1 v2 v3, .int .i64 by_] w fun e w' => e = .returned (tmv (TM.sh by_ t) v1 v2 v3) ∧ TmIn w' (TM.sh by_ t) v1 v2 v3 ∧ Below w0.heap.size w0 w' ∧ ∀ g ty cs, g < B → Lies w g ty cs → Lies w' g ty cs := by
  obtain ⟨D, S, hT, hS, hD, hSD⟩ := hn
  refine (shifted_any t w D S v1 v2 v3 by_ hT (fun g _ hs hd => hSD g hs hd) (fun g hg => (hD g hg).2) h0 h1 hs).mono ?_
  rintro e w' ⟨rfl, hT', k⟩
  refine ⟨rfl, hT'.tmin, ?_, fun g ty cs hg hl => hl.turns k (fun hs => by have := (hS g hs).1; omega)⟩
  exact ⟨k.os.trans hb.os, k.tape.trans hb.tape, k.output.trans hb.output, Nat.le_trans hb.size k.size, fun i hi => (k.block i (Nat.lt_of_lt_of_le hi hb.size) (fun hs => by have := (hS i hs).1; omega)).trans (hb.block i hi)⟩
/-- Alpha, of a program that is right -/
theorem alpha_ok {t : Tm} {w : World} {vp vi vk : Value} (hT : TmIn w t vp vi vk) (hB : TmBd t) (h : TM.okt t = true) :
    Calls Tryz.prog 15 #[tmv t vp vi vk] w fun e w' => ∃ v1 v2 v3, e = .returned (.tuple #[tmv (TM.alpha t) v1 v2 v3, .nilIface]) ∧ TmIn w' (TM.alpha t) v1 v2 v3 ∧ Went w w' := by
  refine (alpha_any t w vp vi vk hT hB).mono ?_
  rintro e w' ⟨h1, _, h3⟩
  obtain ⟨v1, v2, v3, he, hi⟩ := h1 h
  exact ⟨v1, v2, v3, he, hi, h3⟩
theorem BoolIff.ret {p : Prop} {w w' : World} {e : Ending} (h : BoolIff p w e w') {d : Bool} (hd : d = true ↔ p) : e = .returned (.bool d) ∧ Went w w' := by
  obtain ⟨r, rfl, hr, k⟩ := h
  refine ⟨?_, k⟩
  have : r = d := by
    rw [Bool.eq_iff_iff]; exact hr.trans hd.symm
  rw [this]
/-- what lies there from region 14 on: the five boxes, and the terms in them -/
structure Fv (w : World) (t u x a : Tm) (vp vi vk xp xi xk p8 i8 k8 p9 i9 k9 pb ib kb : Value) (g8 g9 gb : Nat) (w' : World) : Prop where
  bl : Below w.heap.size w w'
  lt : Lies w' w.heap.size 28 (tcells t vp vi vk)
  lu : Lies w' (w.heap.size + 1) 28 (tcells u xp xi xk)
  l8 : Lies w' g8 28 (tcells x p8 i8 k8)
  l9 : Lies w' g9 28 (tcells a p9 i9 k9)
  lb : Lies w' gb 28 (tcells a pb ib kb)
  i8 : TmIn w' x p8 i8 k8
  i9 : TmIn w' a p9 i9 k9
  ib : TmIn w' a pb ib kb
theorem Fv.below {w : World} {t u x a : Tm} {vp vi vk xp xi xk p8 i8 k8 p9 i9 k9 pb ib kb : Value} {g8 g9 gb : Nat} {w' w2 : World} (h : Fv w t u x a vp vi vk xp xi xk p8 i8 k8 p9 i9 k9 pb ib kb g8 g9 gb w') (k : Below w'.heap.size w' w2) :
    Fv w t u x a vp vi vk xp xi xk p8 i8 k8 p9 i9 k9 pb ib kb g8 g9 gb w2 :=
  ⟨h.bl.trans (Below.mono k h.bl.size), h.lt.below k h.lt.lt, h.lu.below k h.lu.lt, h.l8.below k h.l8.lt, h.l9.below k h.l9.lt, h.lb.below k h.lb.lt, h.i8.below k, h.i9.below k, h.ib.below k⟩
theorem Fv.drew {w : World} {t u x a : Tm} {vp vi vk xp xi xk p8 i8 k8 p9 i9 k9 pb ib kb : Value} {g8 g9 gb : Nat} {w' : World} (h : Fv w t u x a vp vi vk xp xi xk p8 i8 k8 p9 i9 k9 pb ib kb g8 g9 gb w') :
    Fv w t u x a vp vi vk xp xi xk p8 i8 k8 p9 i9 k9 pb ib kb g8 g9 gb w'.drew :=
  h.below (below_of_drew (w := w') (w' := w'.drew) (Below.refl _ _))
end Go.Proofs.YtohelmhplofejaaGreatDoor
