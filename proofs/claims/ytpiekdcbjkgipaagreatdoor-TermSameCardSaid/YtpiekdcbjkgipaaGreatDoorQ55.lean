/- The law TermSame, walked. -/
import Derived.Test.YtpiekdcbjkgipaaGreatDoorQ41
import Derived.Test.YtpiekdcbjkgipaaGreatDoorQ44
import Derived.Test.YtpiekdcbjkgipaaGreatDoorQ45
namespace Go.Proofs.YtpiekdcbjkgipaaGreatDoor
open Go.ChangeShapes Go.WideShapes Go.ChangeAt Go.RowKit Go.Deep
open TM (Tl Tm)

set_option maxRecDepth 100000 in
set_option maxHeartbeats 8000000 in
theorem termSame_no (hSame : SameAny) (t u : Tm) (w : World) (vp vi vk xp xi xk : Value) (h : TmIn w t vp vi vk) (hu : TmIn w u xp xi xk) (hB : TmBd t) (hT : Tab w) (hno : ¬ (TM.smt t = true ∧ TM.smt u = true ∧ TM.okt t = true)) :
    Calls Tryz.prog 5 #[tmv t vp vi vk, tmv u xp xi xk] w fun e w' => e = .returned (.bool true) ∧ Below w.heap.size w w' := by
  have hA := Lib.hid (fun (w' : World) (hb : Below w.heap.size w w') => awake10_of hSame w' (hT.on hb))
  have hS := Lib.hid (fun (w' : World) (hb : Below w.heap.size w w') => tsmall_any t w' vp vi vk (h.below hb))
  have hV := Lib.hid (fun (w' : World) (hb : Below w.heap.size w w') => tsmall_any u w' xp xi xk (hu.below hb))
  have hR := Lib.hid (fun (w' : World) (hb : Below w.heap.size w w') (hs : TM.smt t = true) => tright_any t w' vp vi vk (h.below hb) hB (smt_facts hs).2.2)
  unfold tmv at hS hV hR
  unfold tmv
  have hL1 := (Lies.made w 28 #[.int .i64 t.k, .int .i64 t.n, .string ⟨t.s.toArray⟩, vp, .int .i64 t.d.k, .int .i64 t.d.n, .string ⟨t.d.s.toArray⟩, vi, vk]).alloc (.cells #[.int .i64 u.k, .int .i64 u.n, .string ⟨u.s.toArray⟩, xp, .int .i64 u.d.k, .int .i64 u.d.n, .string ⟨u.d.s.toArray⟩, xi, xk] 28)
  have hz1 : (w.alloc (.cells #[.int .i64 t.k, .int .i64 t.n, .string ⟨t.s.toArray⟩, vp, .int .i64 t.d.k, .int .i64 t.d.n, .string ⟨t.d.s.toArray⟩, vi, vk] 28)).heap.size = w.heap.size + 1 := by simp
  have hL2 := Lies.made (w.alloc (.cells #[.int .i64 t.k, .int .i64 t.n, .string ⟨t.s.toArray⟩, vp, .int .i64 t.d.k, .int .i64 t.d.n, .string ⟨t.d.s.toArray⟩, vi, vk] 28)) 28 #[.int .i64 u.k, .int .i64 u.n, .string ⟨u.s.toArray⟩, xp, .int .i64 u.d.k, .int .i64 u.d.n, .string ⟨u.d.s.toArray⟩, xi, xk]
  rw [hz1] at hL2
  have hb0 : Below w.heap.size w ((w.alloc (.cells #[.int .i64 t.k, .int .i64 t.n, .string ⟨t.s.toArray⟩, vp, .int .i64 t.d.k, .int .i64 t.d.n, .string ⟨t.d.s.toArray⟩, vi, vk] 28)).alloc (.cells #[.int .i64 u.k, .int .i64 u.n, .string ⟨u.s.toArray⟩, xp, .int .i64 u.d.k, .int .i64 u.d.n, .string ⟨u.d.s.toArray⟩, xi, xk] 28)) := ((Below.refl _ w).alloc (Nat.le_refl _) _).alloc (by simp) _
  obtain ⟨W2, hW2⟩ : ∃ W2, ((w.alloc (.cells #[.int .i64 t.k, .int .i64 t.n, .string ⟨t.s.toArray⟩, vp, .int .i64 t.d.k, .int .i64 t.d.n, .string ⟨t.d.s.toArray⟩, vi, vk] 28)).alloc (.cells #[.int .i64 u.k, .int .i64 u.n, .string ⟨u.s.toArray⟩, xp, .int .i64 u.d.k, .int .i64 u.d.n, .string ⟨u.d.s.toArray⟩, xi, xk] 28)) = W2 := ⟨_, rfl⟩
  rw [hW2] at hL1 hL2 hb0
  obtain ⟨st, hst⟩ : ∃ b, TM.smt t = b := ⟨_, rfl⟩
  obtain ⟨su, hsu⟩ : ∃ b, TM.smt u = b := ⟨_, rfl⟩
  obtain ⟨ok, hok⟩ : ∃ b, TM.okt t = b := ⟨_, rfl⟩
  rw [hst, hsu, hok] at hno
  rw [hst] at hS hR
  rw [hsu] at hV
  rw [hok] at hR
  clear h hu hB hT hSame hst hsu hok hz1
  cases st
  · have hz := hS
    go_enter Tryz.func5, Tryz.ntmps5
    go_wp2_with (first
      | (go_at_call 7
         with_reducible refine (hA.out _ hb0).mono ?_
         rintro e w1 ⟨rfl, hb1⟩
         have hM1 := hL1.below hb1 hL1.lt
         have hO1 := hL2.below hb1 hL2.lt
         have c1 := hb0.trans (Below.mono hb1 hb0.size)
         have z0 := hM1.cell 0
         have z1 := hM1.cell 1
         have z2 := hM1.cell 2
         have z3 := hM1.cell 3
         have z4 := hM1.cell 4
         have z5 := hM1.cell 5
         have z6 := hM1.cell 6
         have z7 := hM1.cell 7
         have z8 := hM1.cell 8
         simp only [List.getElem?_cons_succ, List.getElem?_cons_zero] at z0 z1 z2 z3 z4 z5 z6 z7 z8
         clear hb1)
      | (go_at_call 8
         with_reducible refine (hS.out _ c1).mono ?_
         rintro e w2 ⟨rfl, hb2⟩
         have hM2 := hM1.below hb2 hM1.lt
         have hO2 := hO1.below hb2 hO1.lt
         have c2 := c1.trans (Below.mono hb2 c1.size)
         have y0 := hO2.cell 0
         have y1 := hO2.cell 1
         have y2 := hO2.cell 2
         have y3 := hO2.cell 3
         have y4 := hO2.cell 4
         have y5 := hO2.cell 5
         have y6 := hO2.cell 6
         have y7 := hO2.cell 7
         have y8 := hO2.cell 8
         simp only [List.getElem?_cons_succ, List.getElem?_cons_zero] at y0 y1 y2 y3 y4 y5 y6 y7 y8
         clear hb2 z0 z1 z2 z3 z4 z5 z6 z7 z8)
      | (go_at_call 7; with_reducible refine (hA.out _ c2).mono ?_; rintro e w5 ⟨rfl, hb5⟩))
    go_ret
    exact ⟨rfl, c2.trans (Below.mono hb5 c2.size)⟩
  · cases su
    · have hz := hS
      go_enter Tryz.func5, Tryz.ntmps5
      go_wp2_with (first
        | (go_at_call 7
           with_reducible refine (hA.out _ hb0).mono ?_
           rintro e w1 ⟨rfl, hb1⟩
           have hM1 := hL1.below hb1 hL1.lt
           have hO1 := hL2.below hb1 hL2.lt
           have c1 := hb0.trans (Below.mono hb1 hb0.size)
           have z0 := hM1.cell 0
           have z1 := hM1.cell 1
           have z2 := hM1.cell 2
           have z3 := hM1.cell 3
           have z4 := hM1.cell 4
           have z5 := hM1.cell 5
           have z6 := hM1.cell 6
           have z7 := hM1.cell 7
           have z8 := hM1.cell 8
           simp only [List.getElem?_cons_succ, List.getElem?_cons_zero] at z0 z1 z2 z3 z4 z5 z6 z7 z8
           clear hb1)
        | (go_at_call 8
           with_reducible refine (hS.out _ c1).mono ?_
           rintro e w2 ⟨rfl, hb2⟩
           have hM2 := hM1.below hb2 hM1.lt
           have hO2 := hO1.below hb2 hO1.lt
           have c2 := c1.trans (Below.mono hb2 c1.size)
           have y0 := hO2.cell 0
           have y1 := hO2.cell 1
           have y2 := hO2.cell 2
           have y3 := hO2.cell 3
           have y4 := hO2.cell 4
           have y5 := hO2.cell 5
           have y6 := hO2.cell 6
           have y7 := hO2.cell 7
           have y8 := hO2.cell 8
           simp only [List.getElem?_cons_succ, List.getElem?_cons_zero] at y0 y1 y2 y3 y4 y5 y6 y7 y8
           clear hb2 z0 z1 z2 z3 z4 z5 z6 z7 z8)
        | (go_at_call 8
           with_reducible refine (hV.out _ c2).mono ?_
           rintro e w3 ⟨rfl, hb3⟩
           have hM3 := hM2.below hb3 hM2.lt
           have hO3 := hO2.below hb3 hO2.lt
           have c3 := c2.trans (Below.mono hb3 c2.size)
           have q0 := hM3.cell 0
           have q1 := hM3.cell 1
           have q2 := hM3.cell 2
           have q3 := hM3.cell 3
           have q4 := hM3.cell 4
           have q5 := hM3.cell 5
           have q6 := hM3.cell 6
           have q7 := hM3.cell 7
           have q8 := hM3.cell 8
           simp only [List.getElem?_cons_succ, List.getElem?_cons_zero] at q0 q1 q2 q3 q4 q5 q6 q7 q8
           clear hb3 y0 y1 y2 y3 y4 y5 y6 y7 y8)
        | (go_at_call 7; with_reducible refine (hA.out _ c3).mono ?_; rintro e w5 ⟨rfl, hb5⟩))
      go_ret
      exact ⟨rfl, c3.trans (Below.mono hb5 c3.size)⟩
    · obtain rfl : ok = false := by cases ok <;> simp_all
      go_enter Tryz.func5, Tryz.ntmps5
      go_wp2_with (first
        | (go_at_call 7
           with_reducible refine (hA.out _ hb0).mono ?_
           rintro e w1 ⟨rfl, hb1⟩
           have hM1 := hL1.below hb1 hL1.lt
           have hO1 := hL2.below hb1 hL2.lt
           have c1 := hb0.trans (Below.mono hb1 hb0.size)
           have z0 := hM1.cell 0
           have z1 := hM1.cell 1
           have z2 := hM1.cell 2
           have z3 := hM1.cell 3
           have z4 := hM1.cell 4
           have z5 := hM1.cell 5
           have z6 := hM1.cell 6
           have z7 := hM1.cell 7
           have z8 := hM1.cell 8
           simp only [List.getElem?_cons_succ, List.getElem?_cons_zero] at z0 z1 z2 z3 z4 z5 z6 z7 z8
           clear hb1)
        | (go_at_call 8
           with_reducible refine (hS.out _ c1).mono ?_
           rintro e w2 ⟨rfl, hb2⟩
           have hM2 := hM1.below hb2 hM1.lt
           have hO2 := hO1.below hb2 hO1.lt
           have c2 := c1.trans (Below.mono hb2 c1.size)
           have y0 := hO2.cell 0
           have y1 := hO2.cell 1
           have y2 := hO2.cell 2
           have y3 := hO2.cell 3
           have y4 := hO2.cell 4
           have y5 := hO2.cell 5
           have y6 := hO2.cell 6
           have y7 := hO2.cell 7
           have y8 := hO2.cell 8
           simp only [List.getElem?_cons_succ, List.getElem?_cons_zero] at y0 y1 y2 y3 y4 y5 y6 y7 y8
           clear hb2 z0 z1 z2 z3 z4 z5 z6 z7 z8)
        | (go_at_call 8
           with_reducible refine (hV.out _ c2).mono ?_
           rintro e w3 ⟨rfl, hb3⟩
           have hM3 := hM2.below hb3 hM2.lt
           have hO3 := hO2.below hb3 hO2.lt
           have c3 := c2.trans (Below.mono hb3 c2.size)
           have q0 := hM3.cell 0
           have q1 := hM3.cell 1
           have q2 := hM3.cell 2
           have q3 := hM3.cell 3
           have q4 := hM3.cell 4
           have q5 := hM3.cell 5
           have q6 := hM3.cell 6
           have q7 := hM3.cell 7
           have q8 := hM3.cell 8
           simp only [List.getElem?_cons_succ, List.getElem?_cons_zero] at q0 q1 q2 q3 q4 q5 q6 q7 q8
           clear hb3 y0 y1 y2 y3 y4 y5 y6 y7 y8)
        | (go_at_call 13
           refine (hR.out _ c3 (by first | rfl | trivial)).mono ?_
           rintro e w4 ⟨rfl, hb4⟩
           have c4 := c3.trans (Below.mono hb4 c3.size))
        | (go_at_call 7; with_reducible refine (hA.out _ c4).mono ?_; rintro e w5 ⟨rfl, hb5⟩))
      go_ret
      exact ⟨rfl, c4.trans (Below.mono hb5 c4.size)⟩
end Go.Proofs.YtpiekdcbjkgipaaGreatDoor
