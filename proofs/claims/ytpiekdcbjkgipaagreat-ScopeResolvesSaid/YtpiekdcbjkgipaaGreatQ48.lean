/- The law ScopeSame, walked. -/
import Derived.Test.YtpiekdcbjkgipaaGreatQ33
import Derived.Test.YtpiekdcbjkgipaaGreatQ37
import Derived.Test.YtpiekdcbjkgipaaGreatQ40
import Derived.Test.YtpiekdcbjkgipaaGreatQ46
import Derived.Test.YtpiekdcbjkgipaaGreatQ47
namespace Go.Proofs.YtpiekdcbjkgipaaGreat
open Go.ChangeShapes Go.WideShapes Go.ChangeAt Go.RowKit Go.Deep
open TM (Tl Tm)

theorem smt_facts {t : Tm} (h : TM.smt t = true) : TM.sd1 t = true ∧ TM.sz t.ks + 1 < 5000 ∧ (t.ps ++ TM.prs t.ks).length ≤ 1000000 := by
  have h2 := TM.smt_prs h
  simp only [TM.smt, Bool.and_eq_true, decide_eq_true_eq] at h
  exact ⟨h.2, h.1.2, h2⟩
theorem boolIff_yes {p : Prop} {w w' : World} {e : Ending} (h : BoolIff p w e w') (hp : p) : e = .returned (.bool true) ∧ Went w w' := by
  obtain ⟨r, rfl, hr, k⟩ := h
  exact ⟨by rw [hr.2 hp], k⟩
set_option maxRecDepth 100000 in
set_option maxHeartbeats 8000000 in
theorem scopeSame_walk (t : Tm) (n : Int) (W : World) (vp vi vk : Value) (h : TmIn W t vp vi vk) (hB : TmBd t) (hn : b64 n) :
    Calls Tryz.prog 4 #[tmv t vp vi vk, .int .i64 n] W fun e w' => e = .returned (.bool true) ∧ Below W.heap.size W w' := by
  have hAw := Lib.hid (fun w => awake15_any w)
  have hSm := Lib.hid (fun (w' : World) (hb : Below W.heap.size W w') => tsmall_any t w' vp vi vk (h.below hb))
  obtain ⟨tP, tl, tp, rfl⟩ : ∃ A m c, vp = .slice A m c := by obtain ⟨A, c, e⟩ := h.p.read; exact ⟨_, _, _, e⟩
  obtain ⟨tI, tm, tq, rfl⟩ : ∃ A m c, vi = .slice A m c := by obtain ⟨A, c, e⟩ := h.d.read; exact ⟨_, _, _, e⟩
  obtain ⟨tK, tn, tr, rfl⟩ : ∃ A m c, vk = .slice A m c := by obtain ⟨A, c, e⟩ := h.k.read; exact ⟨_, _, _, e⟩
  have hM := Lies.made W 28 #[.int .i64 t.k, .int .i64 t.n, .string ⟨t.s.toArray⟩, .slice tP tl tp, .int .i64 t.d.k, .int .i64 t.d.n, .string ⟨t.d.s.toArray⟩, .slice tI tm tq, .slice tK tn tr]
  obtain ⟨W1, hW1⟩ : ∃ W1, W.alloc (.cells #[.int .i64 t.k, .int .i64 t.n, .string ⟨t.s.toArray⟩, .slice tP tl tp, .int .i64 t.d.k, .int .i64 t.d.n, .string ⟨t.d.s.toArray⟩, .slice tI tm tq, .slice tK tn tr] 28) = W1 := ⟨_, rfl⟩
  have hba : Below W.heap.size W W1 := by rw [← hW1]; exact (Below.refl _ W).alloc (Nat.le_refl _) _
  rw [hW1] at hM
  have y0 := hM.cell 0
  have y1 := hM.cell 1
  have y2 := hM.cell 2
  have y3 := hM.cell 3
  have y4 := hM.cell 4
  have y5 := hM.cell 5
  have y6 := hM.cell 6
  have y7 := hM.cell 7
  have y8 := hM.cell 8
  simp only [List.getElem?_cons_succ, List.getElem?_cons_zero] at y0 y1 y2 y3 y4 y5 y6 y7 y8
  have hM0 := Lib.hid hM
  have hb0 := Lib.hid hba
  clear hM hba
  have st0 : True := trivial
  cases hst : TM.smt t
  · rw [hst] at hSm
    clear hst h hB
    unfold tmv at hSm ⊢
    go_enter Tryz.func4, Tryz.ntmps4
    go_wp2_with (first
      | (clear st0
         go_at_call 5
         refine (hAw.out _).mono ?_
         rintro e w1 ⟨rfl, hq⟩
         have hb1 := Lib.hid (hb0.out.trans (Below.mono hq hb0.out.size))
         have hM1 := Lib.hid (hM0.out.below hq hM0.out.lt)
         have hM1x := hM1.out
         clear y0 y1 y2 y3 y4 y5 y6 y7 y8
         have y0 := hM1x.cell 0
         have y1 := hM1x.cell 1
         have y2 := hM1x.cell 2
         have y3 := hM1x.cell 3
         have y4 := hM1x.cell 4
         have y5 := hM1x.cell 5
         have y6 := hM1x.cell 6
         have y7 := hM1x.cell 7
         have y8 := hM1x.cell 8
         simp only [List.getElem?_cons_succ, List.getElem?_cons_zero] at y0 y1 y2 y3 y4 y5 y6 y7 y8
         clear hq hM1x
         have st1 : True := trivial)
      | (clear st1
         go_at_call 6
         refine (hSm.out _ hb1.out).mono ?_
         rintro e w2 ⟨rfl, hq⟩
         have hb2 := Lib.hid (hb1.out.trans (Below.mono hq hb1.out.size))
         have hM2 := Lib.hid (hM1.out.below hq hM1.out.lt)
         have hM2x := hM2.out
         clear y0 y1 y2 y3 y4 y5 y6 y7 y8
         have y0 := hM2x.cell 0
         have y1 := hM2x.cell 1
         have y2 := hM2x.cell 2
         have y3 := hM2x.cell 3
         have y4 := hM2x.cell 4
         have y5 := hM2x.cell 5
         have y6 := hM2x.cell 6
         have y7 := hM2x.cell 7
         have y8 := hM2x.cell 8
         simp only [List.getElem?_cons_succ, List.getElem?_cons_zero] at y0 y1 y2 y3 y4 y5 y6 y7 y8
         clear hq hM2x
         have st2 : True := trivial)
      | (clear st2
         go_at_call 5
         refine (hAw.out _).mono ?_
         rintro e w3 ⟨rfl, hq⟩
         have hb3 := Lib.hid (hb2.out.trans (Below.mono hq hb2.out.size))
         clear hq
         have st3 : True := trivial))
    go_ret
    exact ⟨rfl, hb3.out⟩
  rw [hst] at hSm
  obtain ⟨hsd, hsz, hmany⟩ := smt_facts hst
  have hRt := Lib.hid (fun (w' : World) (hb : Below W.heap.size W w') => tright_any t w' _ _ _ (h.below hb) hB hmany)
  cases hok : TM.okt t
  · rw [hok] at hRt
    clear hst hok h hB hsd hsz hmany
    unfold tmv at hSm hRt ⊢
    go_enter Tryz.func4, Tryz.ntmps4
    go_wp2_with (first
      | (clear st0
         go_at_call 5
         refine (hAw.out _).mono ?_
         rintro e w1 ⟨rfl, hq⟩
         have hb1 := Lib.hid (hb0.out.trans (Below.mono hq hb0.out.size))
         have hM1 := Lib.hid (hM0.out.below hq hM0.out.lt)
         have hM1x := hM1.out
         clear y0 y1 y2 y3 y4 y5 y6 y7 y8
         have y0 := hM1x.cell 0
         have y1 := hM1x.cell 1
         have y2 := hM1x.cell 2
         have y3 := hM1x.cell 3
         have y4 := hM1x.cell 4
         have y5 := hM1x.cell 5
         have y6 := hM1x.cell 6
         have y7 := hM1x.cell 7
         have y8 := hM1x.cell 8
         simp only [List.getElem?_cons_succ, List.getElem?_cons_zero] at y0 y1 y2 y3 y4 y5 y6 y7 y8
         clear hq hM1x
         have st1 : True := trivial)
      | (clear st1
         go_at_call 6
         refine (hSm.out _ hb1.out).mono ?_
         rintro e w2 ⟨rfl, hq⟩
         have hb2 := Lib.hid (hb1.out.trans (Below.mono hq hb1.out.size))
         have hM2 := Lib.hid (hM1.out.below hq hM1.out.lt)
         have hM2x := hM2.out
         clear y0 y1 y2 y3 y4 y5 y6 y7 y8
         have y0 := hM2x.cell 0
         have y1 := hM2x.cell 1
         have y2 := hM2x.cell 2
         have y3 := hM2x.cell 3
         have y4 := hM2x.cell 4
         have y5 := hM2x.cell 5
         have y6 := hM2x.cell 6
         have y7 := hM2x.cell 7
         have y8 := hM2x.cell 8
         simp only [List.getElem?_cons_succ, List.getElem?_cons_zero] at y0 y1 y2 y3 y4 y5 y6 y7 y8
         clear hq hM2x
         have st2 : True := trivial)
      | (clear st2
         go_at_call 10
         refine (hRt.out _ hb2.out).mono ?_
         rintro e w3 ⟨rfl, hq⟩
         have hb3 := Lib.hid (hb2.out.trans (Below.mono hq hb2.out.size))
         have hM3 := Lib.hid (hM2.out.below hq hM2.out.lt)
         have hM3x := hM3.out
         clear y0 y1 y2 y3 y4 y5 y6 y7 y8
         have y0 := hM3x.cell 0
         have y1 := hM3x.cell 1
         have y2 := hM3x.cell 2
         have y3 := hM3x.cell 3
         have y4 := hM3x.cell 4
         have y5 := hM3x.cell 5
         have y6 := hM3x.cell 6
         have y7 := hM3x.cell 7
         have y8 := hM3x.cell 8
         simp only [List.getElem?_cons_succ, List.getElem?_cons_zero] at y0 y1 y2 y3 y4 y5 y6 y7 y8
         clear hq hM3x
         have st3 : True := trivial)
      | (clear st3
         go_at_call 5
         refine (hAw.out _).mono ?_
         rintro e w4 ⟨rfl, hq⟩
         have hb4 := Lib.hid (hb3.out.trans (Below.mono hq hb3.out.size))
         clear hq
         have st4 : True := trivial))
    go_ret
    exact ⟨rfl, hb4.out⟩
  rw [hok] at hRt
  have hoka := (TM.alpha_alpha hok).1
  have hok' := Lib.hid hok
  have hoka' := Lib.hid hoka
  have hOw := Lib.hid (fun (w' : World) (hb : Below W.heap.size W w') => town_any t w' _ _ _ (h.below hb) hsd (by omega))
  have hAl := Lib.hid (fun (w' : World) (a1 a2 a3 : Value) (hi : TmIn w' t a1 a2 a3) => alpha_any t w' a1 a2 a3 hi hB)
  have hRs := Lib.hid (fun (w' : World) (a1 a2 a3 : Value) (hi : TmIn w' t a1 a2 a3) => sresolve_any t w' a1 a2 a3 hi hB)
  have hRa := Lib.hid (fun (w' : World) (a1 a2 a3 : Value) (hi : TmIn w' (TM.alpha t) a1 a2 a3) => sresolve_any (TM.alpha t) w' a1 a2 a3 hi (hB.alpha hmany))
  have hra := SC.res_alpha hok
  unfold RsO at hRs hRa
  unfold AlN at hAl
  rw [hra] at hRa
  generalize TM.alpha t = a at hRa hAl hoka'
  generalize SC.res t = r at hRs hRa
  unfold tmv at hSm hRt hOw hAl hRs hRa ⊢
  clear hst hok hoka h hB hsd hsz hmany hra
  rcases (show n < 0 ∨ 0 ≤ n by omega) with hn0 | hn0
  · have hPl := Lib.hid (fun w => place_no w n hn0 hn)
    go_enter Tryz.func4, Tryz.ntmps4
    go_wp2_with (first
      | (clear st0
         go_at_call 5
         refine (hAw.out _).mono ?_
         rintro e w1 ⟨rfl, hq⟩
         have hb1 := Lib.hid (hb0.out.trans (Below.mono hq hb0.out.size))
         have hM1 := Lib.hid (hM0.out.below hq hM0.out.lt)
         have hM1x := hM1.out
         clear y0 y1 y2 y3 y4 y5 y6 y7 y8
         have y0 := hM1x.cell 0
         have y1 := hM1x.cell 1
         have y2 := hM1x.cell 2
         have y3 := hM1x.cell 3
         have y4 := hM1x.cell 4
         have y5 := hM1x.cell 5
         have y6 := hM1x.cell 6
         have y7 := hM1x.cell 7
         have y8 := hM1x.cell 8
         simp only [List.getElem?_cons_succ, List.getElem?_cons_zero] at y0 y1 y2 y3 y4 y5 y6 y7 y8
         clear hq hM1x
         have st1 : True := trivial)
      | (clear st1
         go_at_call 6
         refine (hSm.out _ hb1.out).mono ?_
         rintro e w2 ⟨rfl, hq⟩
         have hb2 := Lib.hid (hb1.out.trans (Below.mono hq hb1.out.size))
         have hM2 := Lib.hid (hM1.out.below hq hM1.out.lt)
         have hM2x := hM2.out
         clear y0 y1 y2 y3 y4 y5 y6 y7 y8
         have y0 := hM2x.cell 0
         have y1 := hM2x.cell 1
         have y2 := hM2x.cell 2
         have y3 := hM2x.cell 3
         have y4 := hM2x.cell 4
         have y5 := hM2x.cell 5
         have y6 := hM2x.cell 6
         have y7 := hM2x.cell 7
         have y8 := hM2x.cell 8
         simp only [List.getElem?_cons_succ, List.getElem?_cons_zero] at y0 y1 y2 y3 y4 y5 y6 y7 y8
         clear hq hM2x
         have st2 : True := trivial)
      | (clear st2
         go_at_call 10
         refine (hRt.out _ hb2.out).mono ?_
         rintro e w3 ⟨rfl, hq⟩
         have hb3 := Lib.hid (hb2.out.trans (Below.mono hq hb2.out.size))
         have hM3 := Lib.hid (hM2.out.below hq hM2.out.lt)
         have hM3x := hM3.out
         clear y0 y1 y2 y3 y4 y5 y6 y7 y8
         have y0 := hM3x.cell 0
         have y1 := hM3x.cell 1
         have y2 := hM3x.cell 2
         have y3 := hM3x.cell 3
         have y4 := hM3x.cell 4
         have y5 := hM3x.cell 5
         have y6 := hM3x.cell 6
         have y7 := hM3x.cell 7
         have y8 := hM3x.cell 8
         simp only [List.getElem?_cons_succ, List.getElem?_cons_zero] at y0 y1 y2 y3 y4 y5 y6 y7 y8
         clear hq hM3x
         have st3 : True := trivial)
      | (clear st3
         go_at_call 8
         refine (hOw.out _ hb3.out).mono ?_
         rintro e w4 ⟨vp4, vi4, vk4, rfl, hNw, hq⟩
         have hT4 := hNw.tmin
         obtain ⟨dP, dl, dp, rfl⟩ : ∃ A m c, vp4 = .slice A m c := by obtain ⟨A, c, e⟩ := hT4.p.read; exact ⟨_, _, _, e⟩
         obtain ⟨dI, dm, dq, rfl⟩ : ∃ A m c, vi4 = .slice A m c := by obtain ⟨A, c, e⟩ := hT4.d.read; exact ⟨_, _, _, e⟩
         obtain ⟨dK, dn, dr, rfl⟩ : ∃ A m c, vk4 = .slice A m c := by obtain ⟨A, c, e⟩ := hT4.k.read; exact ⟨_, _, _, e⟩
         have hT4' := Lib.hid hT4
         have hb4 := Lib.hid (hb3.out.trans (Below.mono hq hb3.out.size))
         have hM4 := Lib.hid (hM3.out.below hq hM3.out.lt)
         clear hq hNw hT4 y0 y1 y2 y3 y4 y5 y6 y7 y8
         have st4 : True := trivial)
      | (clear st4
         go_at_call 16
         refine (hAl.out _ _ _ _ hT4'.out).mono ?_
         rintro e w5 ⟨hyes, -, hq⟩
         obtain ⟨vp5, vi5, vk5, rfl, hT5⟩ := hyes hok'.out
         obtain ⟨aP, al, ap, rfl⟩ : ∃ A m c, vp5 = .slice A m c := by obtain ⟨A, c, e⟩ := hT5.p.read; exact ⟨_, _, _, e⟩
         obtain ⟨aI, am, aq, rfl⟩ : ∃ A m c, vi5 = .slice A m c := by obtain ⟨A, c, e⟩ := hT5.d.read; exact ⟨_, _, _, e⟩
         obtain ⟨aK, an, ar, rfl⟩ : ∃ A m c, vk5 = .slice A m c := by obtain ⟨A, c, e⟩ := hT5.k.read; exact ⟨_, _, _, e⟩
         have hq2 : Below w4.heap.size w4 (w5.alloc (.cells #[.int .i64 a.k, .int .i64 a.n, .string ⟨a.s.toArray⟩, .slice aP al ap, .int .i64 a.d.k, .int .i64 a.d.n, .string ⟨a.d.s.toArray⟩, .slice aI am aq, .slice aK an ar] 28)) := Below.alloc hq (Below.size hq) _
         have hb5 := Lib.hid (hb4.out.trans (Below.mono hq2 hb4.out.size))
         have hM5 := Lib.hid (hM4.out.below hq2 hM4.out.lt)
         have hX5 := Lib.hid (Lies.made w5 28 #[.int .i64 a.k, .int .i64 a.n, .string ⟨a.s.toArray⟩, .slice aP al ap, .int .i64 a.d.k, .int .i64 a.d.n, .string ⟨a.d.s.toArray⟩, .slice aI am aq, .slice aK an ar])
         have hT5' := Lib.hid (hT5.below ((Below.refl _ w5).alloc (Nat.le_refl _) (.cells #[.int .i64 a.k, .int .i64 a.n, .string ⟨a.s.toArray⟩, .slice aP al ap, .int .i64 a.d.k, .int .i64 a.d.n, .string ⟨a.d.s.toArray⟩, .slice aI am aq, .slice aK an ar] 28)))
         have hM5x := hM5.out
         have y0 := hM5x.cell 0
         have y1 := hM5x.cell 1
         have y2 := hM5x.cell 2
         have y3 := hM5x.cell 3
         have y4 := hM5x.cell 4
         have y5 := hM5x.cell 5
         have y6 := hM5x.cell 6
         have y7 := hM5x.cell 7
         have y8 := hM5x.cell 8
         simp only [List.getElem?_cons_succ, List.getElem?_cons_zero] at y0 y1 y2 y3 y4 y5 y6 y7 y8
         clear hq hq2 hyes hT5 hM5x
         have st5 : True := trivial)
      | (clear st5
         go_at_call 8
         refine (hOw.out _ hb5.out).mono ?_
         rintro e w6 ⟨vp6, vi6, vk6, rfl, hNw, hq⟩
         have hT6 := hNw.tmin
         obtain ⟨eP, el, ep, rfl⟩ : ∃ A m c, vp6 = .slice A m c := by obtain ⟨A, c, e⟩ := hT6.p.read; exact ⟨_, _, _, e⟩
         obtain ⟨eI, em, eq, rfl⟩ : ∃ A m c, vi6 = .slice A m c := by obtain ⟨A, c, e⟩ := hT6.d.read; exact ⟨_, _, _, e⟩
         obtain ⟨eK, en, er, rfl⟩ : ∃ A m c, vk6 = .slice A m c := by obtain ⟨A, c, e⟩ := hT6.k.read; exact ⟨_, _, _, e⟩
         have hT6' := Lib.hid hT6
         have hb6 := Lib.hid (hb5.out.trans (Below.mono hq hb5.out.size))
         have hX6 := Lib.hid (hX5.out.below hq hX5.out.lt)
         have hT5b := Lib.hid (hT5'.out.below hq)
         clear hq hNw hT6 y0 y1 y2 y3 y4 y5 y6 y7 y8
         have st6 : True := trivial)
      | (clear st6
         go_at_call 7
         refine (hRs.out _ _ _ _ hT6'.out).mono ?_
         rintro e w7 ⟨hyes, -, hq⟩
         obtain ⟨vp7, vi7, vk7, rfl, hT7⟩ := hyes hok'.out
         obtain ⟨bP, bl, bp, rfl⟩ : ∃ A m c, vp7 = .slice A m c := by obtain ⟨A, c, e⟩ := hT7.p.read; exact ⟨_, _, _, e⟩
         obtain ⟨bI, bm, bq, rfl⟩ : ∃ A m c, vi7 = .slice A m c := by obtain ⟨A, c, e⟩ := hT7.d.read; exact ⟨_, _, _, e⟩
         obtain ⟨bK, bn, br, rfl⟩ : ∃ A m c, vk7 = .slice A m c := by obtain ⟨A, c, e⟩ := hT7.k.read; exact ⟨_, _, _, e⟩
         have hq2 : Below w6.heap.size w6 (w7.alloc (.cells #[.int .i64 r.k, .int .i64 r.n, .string ⟨r.s.toArray⟩, .slice bP bl bp, .int .i64 r.d.k, .int .i64 r.d.n, .string ⟨r.d.s.toArray⟩, .slice bI bm bq, .slice bK bn br] 28)) := Below.alloc hq (Below.size hq) _
         have hb7 := Lib.hid (hb6.out.trans (Below.mono hq2 hb6.out.size))
         have hX7 := Lib.hid (hX6.out.below hq2 hX6.out.lt)
         have hY7 := Lib.hid (Lies.made w7 28 #[.int .i64 r.k, .int .i64 r.n, .string ⟨r.s.toArray⟩, .slice bP bl bp, .int .i64 r.d.k, .int .i64 r.d.n, .string ⟨r.d.s.toArray⟩, .slice bI bm bq, .slice bK bn br])
         have hT7' := Lib.hid (hT7.below ((Below.refl _ w7).alloc (Nat.le_refl _) (.cells #[.int .i64 r.k, .int .i64 r.n, .string ⟨r.s.toArray⟩, .slice bP bl bp, .int .i64 r.d.k, .int .i64 r.d.n, .string ⟨r.d.s.toArray⟩, .slice bI bm bq, .slice bK bn br] 28)))
         have hT5c := Lib.hid (hT5b.out.below hq2)
         have hX7x := hX7.out
         have x0 := hX7x.cell 0
         have x1 := hX7x.cell 1
         have x2 := hX7x.cell 2
         have x3 := hX7x.cell 3
         have x4 := hX7x.cell 4
         have x5 := hX7x.cell 5
         have x6 := hX7x.cell 6
         have x7 := hX7x.cell 7
         have x8 := hX7x.cell 8
         simp only [List.getElem?_cons_succ, List.getElem?_cons_zero] at x0 x1 x2 x3 x4 x5 x6 x7 x8
         clear hq hq2 hyes hT7 hX7x
         have st7 : True := trivial)
      | (clear st7
         go_at_call 7
         refine (hRa.out _ _ _ _ hT5c.out).mono ?_
         rintro e w8 ⟨hyes, -, hq⟩
         obtain ⟨vp8, vi8, vk8, rfl, hT8⟩ := hyes hoka'.out
         obtain ⟨cP, cl, cp, rfl⟩ : ∃ A m c, vp8 = .slice A m c := by obtain ⟨A, c, e⟩ := hT8.p.read; exact ⟨_, _, _, e⟩
         obtain ⟨cI, cm, cq, rfl⟩ : ∃ A m c, vi8 = .slice A m c := by obtain ⟨A, c, e⟩ := hT8.d.read; exact ⟨_, _, _, e⟩
         obtain ⟨cK, cn, cr, rfl⟩ : ∃ A m c, vk8 = .slice A m c := by obtain ⟨A, c, e⟩ := hT8.k.read; exact ⟨_, _, _, e⟩
         have hq2 : Below (w7.alloc (.cells #[.int .i64 r.k, .int .i64 r.n, .string ⟨r.s.toArray⟩, .slice bP bl bp, .int .i64 r.d.k, .int .i64 r.d.n, .string ⟨r.d.s.toArray⟩, .slice bI bm bq, .slice bK bn br] 28)).heap.size (w7.alloc (.cells #[.int .i64 r.k, .int .i64 r.n, .string ⟨r.s.toArray⟩, .slice bP bl bp, .int .i64 r.d.k, .int .i64 r.d.n, .string ⟨r.d.s.toArray⟩, .slice bI bm bq, .slice bK bn br] 28)) (w8.alloc (.cells #[.int .i64 r.k, .int .i64 r.n, .string ⟨r.s.toArray⟩, .slice cP cl cp, .int .i64 r.d.k, .int .i64 r.d.n, .string ⟨r.d.s.toArray⟩, .slice cI cm cq, .slice cK cn cr] 28)) := Below.alloc hq (Below.size hq) _
         have hb8 := Lib.hid (hb7.out.trans (Below.mono hq2 hb7.out.size))
         have hY8 := hY7.out.below hq2 hY7.out.lt
         have hZ8 := Lies.made w8 28 #[.int .i64 r.k, .int .i64 r.n, .string ⟨r.s.toArray⟩, .slice cP cl cp, .int .i64 r.d.k, .int .i64 r.d.n, .string ⟨r.d.s.toArray⟩, .slice cI cm cq, .slice cK cn cr]
         have hEq := Lib.hid (equal_any r r (w8.alloc (.cells #[.int .i64 r.k, .int .i64 r.n, .string ⟨r.s.toArray⟩, .slice cP cl cp, .int .i64 r.d.k, .int .i64 r.d.n, .string ⟨r.d.s.toArray⟩, .slice cI cm cq, .slice cK cn cr] 28)) _ _ _ _ _ _ (hT7'.out.below hq2) (hT8.below ((Below.refl _ w8).alloc (Nat.le_refl _) (.cells #[.int .i64 r.k, .int .i64 r.n, .string ⟨r.s.toArray⟩, .slice cP cl cp, .int .i64 r.d.k, .int .i64 r.d.n, .string ⟨r.d.s.toArray⟩, .slice cI cm cq, .slice cK cn cr] 28))))
         have u0 := hY8.cell 0
         have u1 := hY8.cell 1
         have u2 := hY8.cell 2
         have u3 := hY8.cell 3
         have u4 := hY8.cell 4
         have u5 := hY8.cell 5
         have u6 := hY8.cell 6
         have u7 := hY8.cell 7
         have u8 := hY8.cell 8
         simp only [List.getElem?_cons_succ, List.getElem?_cons_zero] at u0 u1 u2 u3 u4 u5 u6 u7 u8
         have v0 := hZ8.cell 0
         have v1 := hZ8.cell 1
         have v2 := hZ8.cell 2
         have v3 := hZ8.cell 3
         have v4 := hZ8.cell 4
         have v5 := hZ8.cell 5
         have v6 := hZ8.cell 6
         have v7 := hZ8.cell 7
         have v8 := hZ8.cell 8
         simp only [List.getElem?_cons_succ, List.getElem?_cons_zero] at v0 v1 v2 v3 v4 v5 v6 v7 v8
         unfold tmv at hEq
         clear hq hq2 hyes hT8 hY8 hZ8 x0 x1 x2 x3 x4 x5 x6 x7 x8
         have st8 : True := trivial)
      | (clear st8
         go_at_call 17
         refine (hPl.out _).mono ?_
         rintro e w9 ⟨rfl, rfl⟩
         have st9 : True := trivial)
      | (clear st9
         go_at_call 12
         refine hEq.out.mono ?_
         intro e w10 hq
         obtain ⟨rfl, hk9⟩ := boolIff_yes hq (by first | trivial | rfl)
         have hb9 := Lib.hid (hb8.out.trans (Below.mono hk9 hb8.out.size))
         clear hq hk9
         have st10 : True := trivial))
    go_ret
    exact ⟨rfl, hb9.out⟩
  · have hPl := Lib.hid (fun w => place_yes w n hn0 hn)
    obtain ⟨m, rfl⟩ : ∃ m : Nat, n = (m : Int) := ⟨n.toNat, by omega⟩
    unfold b64 at hn
    go_enter Tryz.func4, Tryz.ntmps4
    go_wp2_with (first
      | (clear st0
         go_at_call 5
         refine (hAw.out _).mono ?_
         rintro e w1 ⟨rfl, hq⟩
         have hb1 := Lib.hid (hb0.out.trans (Below.mono hq hb0.out.size))
         have hM1 := Lib.hid (hM0.out.below hq hM0.out.lt)
         have hM1x := hM1.out
         clear y0 y1 y2 y3 y4 y5 y6 y7 y8
         have y0 := hM1x.cell 0
         have y1 := hM1x.cell 1
         have y2 := hM1x.cell 2
         have y3 := hM1x.cell 3
         have y4 := hM1x.cell 4
         have y5 := hM1x.cell 5
         have y6 := hM1x.cell 6
         have y7 := hM1x.cell 7
         have y8 := hM1x.cell 8
         simp only [List.getElem?_cons_succ, List.getElem?_cons_zero] at y0 y1 y2 y3 y4 y5 y6 y7 y8
         clear hq hM1x
         have st1 : True := trivial)
      | (clear st1
         go_at_call 6
         refine (hSm.out _ hb1.out).mono ?_
         rintro e w2 ⟨rfl, hq⟩
         have hb2 := Lib.hid (hb1.out.trans (Below.mono hq hb1.out.size))
         have hM2 := Lib.hid (hM1.out.below hq hM1.out.lt)
         have hM2x := hM2.out
         clear y0 y1 y2 y3 y4 y5 y6 y7 y8
         have y0 := hM2x.cell 0
         have y1 := hM2x.cell 1
         have y2 := hM2x.cell 2
         have y3 := hM2x.cell 3
         have y4 := hM2x.cell 4
         have y5 := hM2x.cell 5
         have y6 := hM2x.cell 6
         have y7 := hM2x.cell 7
         have y8 := hM2x.cell 8
         simp only [List.getElem?_cons_succ, List.getElem?_cons_zero] at y0 y1 y2 y3 y4 y5 y6 y7 y8
         clear hq hM2x
         have st2 : True := trivial)
      | (clear st2
         go_at_call 10
         refine (hRt.out _ hb2.out).mono ?_
         rintro e w3 ⟨rfl, hq⟩
         have hb3 := Lib.hid (hb2.out.trans (Below.mono hq hb2.out.size))
         have hM3 := Lib.hid (hM2.out.below hq hM2.out.lt)
         have hM3x := hM3.out
         clear y0 y1 y2 y3 y4 y5 y6 y7 y8
         have y0 := hM3x.cell 0
         have y1 := hM3x.cell 1
         have y2 := hM3x.cell 2
         have y3 := hM3x.cell 3
         have y4 := hM3x.cell 4
         have y5 := hM3x.cell 5
         have y6 := hM3x.cell 6
         have y7 := hM3x.cell 7
         have y8 := hM3x.cell 8
         simp only [List.getElem?_cons_succ, List.getElem?_cons_zero] at y0 y1 y2 y3 y4 y5 y6 y7 y8
         clear hq hM3x
         have st3 : True := trivial)
      | (clear st3
         go_at_call 8
         refine (hOw.out _ hb3.out).mono ?_
         rintro e w4 ⟨vp4, vi4, vk4, rfl, hNw, hq⟩
         have hT4 := hNw.tmin
         obtain ⟨dP, dl, dp, rfl⟩ : ∃ A m c, vp4 = .slice A m c := by obtain ⟨A, c, e⟩ := hT4.p.read; exact ⟨_, _, _, e⟩
         obtain ⟨dI, dm, dq, rfl⟩ : ∃ A m c, vi4 = .slice A m c := by obtain ⟨A, c, e⟩ := hT4.d.read; exact ⟨_, _, _, e⟩
         obtain ⟨dK, dn, dr, rfl⟩ : ∃ A m c, vk4 = .slice A m c := by obtain ⟨A, c, e⟩ := hT4.k.read; exact ⟨_, _, _, e⟩
         have hT4' := Lib.hid hT4
         have hb4 := Lib.hid (hb3.out.trans (Below.mono hq hb3.out.size))
         have hM4 := Lib.hid (hM3.out.below hq hM3.out.lt)
         clear hq hNw hT4 y0 y1 y2 y3 y4 y5 y6 y7 y8
         have st4 : True := trivial)
      | (clear st4
         go_at_call 16
         refine (hAl.out _ _ _ _ hT4'.out).mono ?_
         rintro e w5 ⟨hyes, -, hq⟩
         obtain ⟨vp5, vi5, vk5, rfl, hT5⟩ := hyes hok'.out
         obtain ⟨aP, al, ap, rfl⟩ : ∃ A m c, vp5 = .slice A m c := by obtain ⟨A, c, e⟩ := hT5.p.read; exact ⟨_, _, _, e⟩
         obtain ⟨aI, am, aq, rfl⟩ : ∃ A m c, vi5 = .slice A m c := by obtain ⟨A, c, e⟩ := hT5.d.read; exact ⟨_, _, _, e⟩
         obtain ⟨aK, an, ar, rfl⟩ : ∃ A m c, vk5 = .slice A m c := by obtain ⟨A, c, e⟩ := hT5.k.read; exact ⟨_, _, _, e⟩
         have hq2 : Below w4.heap.size w4 (w5.alloc (.cells #[.int .i64 a.k, .int .i64 a.n, .string ⟨a.s.toArray⟩, .slice aP al ap, .int .i64 a.d.k, .int .i64 a.d.n, .string ⟨a.d.s.toArray⟩, .slice aI am aq, .slice aK an ar] 28)) := Below.alloc hq (Below.size hq) _
         have hb5 := Lib.hid (hb4.out.trans (Below.mono hq2 hb4.out.size))
         have hM5 := Lib.hid (hM4.out.below hq2 hM4.out.lt)
         have hX5 := Lib.hid (Lies.made w5 28 #[.int .i64 a.k, .int .i64 a.n, .string ⟨a.s.toArray⟩, .slice aP al ap, .int .i64 a.d.k, .int .i64 a.d.n, .string ⟨a.d.s.toArray⟩, .slice aI am aq, .slice aK an ar])
         have hT5' := Lib.hid (hT5.below ((Below.refl _ w5).alloc (Nat.le_refl _) (.cells #[.int .i64 a.k, .int .i64 a.n, .string ⟨a.s.toArray⟩, .slice aP al ap, .int .i64 a.d.k, .int .i64 a.d.n, .string ⟨a.d.s.toArray⟩, .slice aI am aq, .slice aK an ar] 28)))
         have hM5x := hM5.out
         have y0 := hM5x.cell 0
         have y1 := hM5x.cell 1
         have y2 := hM5x.cell 2
         have y3 := hM5x.cell 3
         have y4 := hM5x.cell 4
         have y5 := hM5x.cell 5
         have y6 := hM5x.cell 6
         have y7 := hM5x.cell 7
         have y8 := hM5x.cell 8
         simp only [List.getElem?_cons_succ, List.getElem?_cons_zero] at y0 y1 y2 y3 y4 y5 y6 y7 y8
         clear hq hq2 hyes hT5 hM5x
         have st5 : True := trivial)
      | (clear st5
         go_at_call 8
         refine (hOw.out _ hb5.out).mono ?_
         rintro e w6 ⟨vp6, vi6, vk6, rfl, hNw, hq⟩
         have hT6 := hNw.tmin
         obtain ⟨eP, el, ep, rfl⟩ : ∃ A m c, vp6 = .slice A m c := by obtain ⟨A, c, e⟩ := hT6.p.read; exact ⟨_, _, _, e⟩
         obtain ⟨eI, em, eq, rfl⟩ : ∃ A m c, vi6 = .slice A m c := by obtain ⟨A, c, e⟩ := hT6.d.read; exact ⟨_, _, _, e⟩
         obtain ⟨eK, en, er, rfl⟩ : ∃ A m c, vk6 = .slice A m c := by obtain ⟨A, c, e⟩ := hT6.k.read; exact ⟨_, _, _, e⟩
         have hT6' := Lib.hid hT6
         have hb6 := Lib.hid (hb5.out.trans (Below.mono hq hb5.out.size))
         have hX6 := Lib.hid (hX5.out.below hq hX5.out.lt)
         have hT5b := Lib.hid (hT5'.out.below hq)
         clear hq hNw hT6 y0 y1 y2 y3 y4 y5 y6 y7 y8
         have st6 : True := trivial)
      | (clear st6
         go_at_call 7
         refine (hRs.out _ _ _ _ hT6'.out).mono ?_
         rintro e w7 ⟨hyes, -, hq⟩
         obtain ⟨vp7, vi7, vk7, rfl, hT7⟩ := hyes hok'.out
         obtain ⟨bP, bl, bp, rfl⟩ : ∃ A m c, vp7 = .slice A m c := by obtain ⟨A, c, e⟩ := hT7.p.read; exact ⟨_, _, _, e⟩
         obtain ⟨bI, bm, bq, rfl⟩ : ∃ A m c, vi7 = .slice A m c := by obtain ⟨A, c, e⟩ := hT7.d.read; exact ⟨_, _, _, e⟩
         obtain ⟨bK, bn, br, rfl⟩ : ∃ A m c, vk7 = .slice A m c := by obtain ⟨A, c, e⟩ := hT7.k.read; exact ⟨_, _, _, e⟩
         have hq2 : Below w6.heap.size w6 (w7.alloc (.cells #[.int .i64 r.k, .int .i64 r.n, .string ⟨r.s.toArray⟩, .slice bP bl bp, .int .i64 r.d.k, .int .i64 r.d.n, .string ⟨r.d.s.toArray⟩, .slice bI bm bq, .slice bK bn br] 28)) := Below.alloc hq (Below.size hq) _
         have hb7 := Lib.hid (hb6.out.trans (Below.mono hq2 hb6.out.size))
         have hX7 := Lib.hid (hX6.out.below hq2 hX6.out.lt)
         have hY7 := Lib.hid (Lies.made w7 28 #[.int .i64 r.k, .int .i64 r.n, .string ⟨r.s.toArray⟩, .slice bP bl bp, .int .i64 r.d.k, .int .i64 r.d.n, .string ⟨r.d.s.toArray⟩, .slice bI bm bq, .slice bK bn br])
         have hT7' := Lib.hid (hT7.below ((Below.refl _ w7).alloc (Nat.le_refl _) (.cells #[.int .i64 r.k, .int .i64 r.n, .string ⟨r.s.toArray⟩, .slice bP bl bp, .int .i64 r.d.k, .int .i64 r.d.n, .string ⟨r.d.s.toArray⟩, .slice bI bm bq, .slice bK bn br] 28)))
         have hT5c := Lib.hid (hT5b.out.below hq2)
         have hX7x := hX7.out
         have x0 := hX7x.cell 0
         have x1 := hX7x.cell 1
         have x2 := hX7x.cell 2
         have x3 := hX7x.cell 3
         have x4 := hX7x.cell 4
         have x5 := hX7x.cell 5
         have x6 := hX7x.cell 6
         have x7 := hX7x.cell 7
         have x8 := hX7x.cell 8
         simp only [List.getElem?_cons_succ, List.getElem?_cons_zero] at x0 x1 x2 x3 x4 x5 x6 x7 x8
         clear hq hq2 hyes hT7 hX7x
         have st7 : True := trivial)
      | (clear st7
         go_at_call 7
         refine (hRa.out _ _ _ _ hT5c.out).mono ?_
         rintro e w8 ⟨hyes, -, hq⟩
         obtain ⟨vp8, vi8, vk8, rfl, hT8⟩ := hyes hoka'.out
         obtain ⟨cP, cl, cp, rfl⟩ : ∃ A m c, vp8 = .slice A m c := by obtain ⟨A, c, e⟩ := hT8.p.read; exact ⟨_, _, _, e⟩
         obtain ⟨cI, cm, cq, rfl⟩ : ∃ A m c, vi8 = .slice A m c := by obtain ⟨A, c, e⟩ := hT8.d.read; exact ⟨_, _, _, e⟩
         obtain ⟨cK, cn, cr, rfl⟩ : ∃ A m c, vk8 = .slice A m c := by obtain ⟨A, c, e⟩ := hT8.k.read; exact ⟨_, _, _, e⟩
         have hq2 : Below (w7.alloc (.cells #[.int .i64 r.k, .int .i64 r.n, .string ⟨r.s.toArray⟩, .slice bP bl bp, .int .i64 r.d.k, .int .i64 r.d.n, .string ⟨r.d.s.toArray⟩, .slice bI bm bq, .slice bK bn br] 28)).heap.size (w7.alloc (.cells #[.int .i64 r.k, .int .i64 r.n, .string ⟨r.s.toArray⟩, .slice bP bl bp, .int .i64 r.d.k, .int .i64 r.d.n, .string ⟨r.d.s.toArray⟩, .slice bI bm bq, .slice bK bn br] 28)) (w8.alloc (.cells #[.int .i64 r.k, .int .i64 r.n, .string ⟨r.s.toArray⟩, .slice cP cl cp, .int .i64 r.d.k, .int .i64 r.d.n, .string ⟨r.d.s.toArray⟩, .slice cI cm cq, .slice cK cn cr] 28)) := Below.alloc hq (Below.size hq) _
         have hb8 := Lib.hid (hb7.out.trans (Below.mono hq2 hb7.out.size))
         have hY8 := hY7.out.below hq2 hY7.out.lt
         have hZ8 := Lies.made w8 28 #[.int .i64 r.k, .int .i64 r.n, .string ⟨r.s.toArray⟩, .slice cP cl cp, .int .i64 r.d.k, .int .i64 r.d.n, .string ⟨r.d.s.toArray⟩, .slice cI cm cq, .slice cK cn cr]
         have hEq := Lib.hid (equal_any r r (w8.alloc (.cells #[.int .i64 r.k, .int .i64 r.n, .string ⟨r.s.toArray⟩, .slice cP cl cp, .int .i64 r.d.k, .int .i64 r.d.n, .string ⟨r.d.s.toArray⟩, .slice cI cm cq, .slice cK cn cr] 28)) _ _ _ _ _ _ (hT7'.out.below hq2) (hT8.below ((Below.refl _ w8).alloc (Nat.le_refl _) (.cells #[.int .i64 r.k, .int .i64 r.n, .string ⟨r.s.toArray⟩, .slice cP cl cp, .int .i64 r.d.k, .int .i64 r.d.n, .string ⟨r.d.s.toArray⟩, .slice cI cm cq, .slice cK cn cr] 28))))
         have u0 := hY8.cell 0
         have u1 := hY8.cell 1
         have u2 := hY8.cell 2
         have u3 := hY8.cell 3
         have u4 := hY8.cell 4
         have u5 := hY8.cell 5
         have u6 := hY8.cell 6
         have u7 := hY8.cell 7
         have u8 := hY8.cell 8
         simp only [List.getElem?_cons_succ, List.getElem?_cons_zero] at u0 u1 u2 u3 u4 u5 u6 u7 u8
         have v0 := hZ8.cell 0
         have v1 := hZ8.cell 1
         have v2 := hZ8.cell 2
         have v3 := hZ8.cell 3
         have v4 := hZ8.cell 4
         have v5 := hZ8.cell 5
         have v6 := hZ8.cell 6
         have v7 := hZ8.cell 7
         have v8 := hZ8.cell 8
         simp only [List.getElem?_cons_succ, List.getElem?_cons_zero] at v0 v1 v2 v3 v4 v5 v6 v7 v8
         unfold tmv at hEq
         clear hq hq2 hyes hT8 hY8 hZ8 x0 x1 x2 x3 x4 x5 x6 x7 x8
         have st8 : True := trivial)
      | (clear st8
         go_at_call 17
         refine (hPl.out _).mono ?_
         rintro e w9 ⟨rfl, rfl⟩
         have st9 : True := trivial)
      | (clear st9
         go_at_call 12
         refine hEq.out.mono ?_
         intro e w10 hq
         obtain ⟨rfl, hk9⟩ := boolIff_yes hq (by first | trivial | rfl)
         have hb9 := Lib.hid (hb8.out.trans (Below.mono hk9 hb8.out.size))
         clear hq hk9
         have st10 : True := trivial))
    go_ret
    exact ⟨rfl, hb9.out⟩
end Go.Proofs.YtpiekdcbjkgipaaGreat
