/- The law TermAlphas, walked: where a term is too great, and where it is not right. -/
import Derived.Test.YtpiekdcbjkgipaaGreatDoorQ49
import Derived.Test.YtpiekdcbjkgipaaGreatDoorQ47
import Derived.Test.YtpiekdcbjkgipaaGreatDoorQ41
import Derived.Test.YtpiekdcbjkgipaaGreatDoorQ43
import Derived.Test.YtpiekdcbjkgipaaGreatDoorQ42
namespace Go.Proofs.YtpiekdcbjkgipaaGreatDoor
open Go.ChangeShapes Go.WideShapes Go.ChangeAt Go.RowKit Go.Deep
open TM (Tl Tm)
set_option maxRecDepth 100000 in
set_option maxHeartbeats 4000000 in
theorem termAlphas_small (t : Tm) (w : World) (vp vi vk : Value) (h : TmIn w t vp vi vk) (hT : Tab w) (hst : TM.smt t = false) :
    Calls Tryz.prog 4 #[tmv t vp vi vk] w fun e w' => e = .returned (.bool true) ∧ Below w.heap.size w w' := by
  have hA := Lib.hid (fun (w' : World) (hb : Below w.heap.size w w') => awake10_of same_as w' (hT.on hb))
  have hS := Lib.hid (fun (w' : World) (hb : Below w.heap.size w w') => tsmall_any t w' vp vi vk (h.below hb))
  rw [hst] at hS
  unfold tmv at hS ⊢
  have hM0 := Lib.hid (Lies.made w 28 #[.int .i64 t.k, .int .i64 t.n, .string ⟨t.s.toArray⟩, vp, .int .i64 t.d.k, .int .i64 t.d.n, .string ⟨t.d.s.toArray⟩, vi, vk])
  have c0 := Lib.hid (show Below w.heap.size w (w.alloc (.cells #[.int .i64 t.k, .int .i64 t.n, .string ⟨t.s.toArray⟩, vp, .int .i64 t.d.k, .int .i64 t.d.n, .string ⟨t.d.s.toArray⟩, vi, vk] 28)) from (Below.refl _ w).alloc (Nat.le_refl _) _)
  clear h hT hst
  have st0 : True := trivial
  go_enter Tryz.func4, Tryz.ntmps4
  go_wp2_with (first
    | (clear st0
       go_at_call 7
       with_reducible refine (hA.out _ c0.out).mono ?_
       rintro e w1 ⟨rfl, hb⟩
       have hM1 := Lib.hid (hM0.out.below hb hM0.out.lt)
       have c1 := Lib.hid (c0.out.trans (Below.mono hb c0.out.size))
       have z0 := hM1.out.cell 0
       have z1 := hM1.out.cell 1
       have z2 := hM1.out.cell 2
       have z3 := hM1.out.cell 3
       have z4 := hM1.out.cell 4
       have z5 := hM1.out.cell 5
       have z6 := hM1.out.cell 6
       have z7 := hM1.out.cell 7
       have z8 := hM1.out.cell 8
       simp only [List.getElem?_cons_succ, List.getElem?_cons_zero] at z0 z1 z2 z3 z4 z5 z6 z7 z8
       clear hb 
       have st1 : True := trivial)
    | (clear st1
       go_at_call 8
       with_reducible refine (hS.out _ c1.out).mono ?_
       rintro e w2 ⟨rfl, hb⟩
       have hM2 := Lib.hid (hM1.out.below hb hM1.out.lt)
       have c2 := Lib.hid (c1.out.trans (Below.mono hb c1.out.size))
       clear hb z0 z1 z2 z3 z4 z5 z6 z7 z8
       have st2 : True := trivial)
    | (clear st2
       go_at_call 7
       with_reducible refine (hA.out _ c2.out).mono ?_
       rintro e w3 ⟨rfl, hb⟩
       have hM3 := Lib.hid (hM2.out.below hb hM2.out.lt)
       have c3 := Lib.hid (c2.out.trans (Below.mono hb c2.out.size))
       clear hb 
       have st3 : True := trivial))
  go_ret
  exact ⟨rfl, c3.out⟩
/-- no term -/
def tz : Tm := ⟨0, 0, [], [], ⟨0, 0, [], .nil⟩, .nil⟩
theorem tz_in (w : World) : TmIn w tz (.slice none 0 0) (.slice none 0 0) (.slice none 0 0) := ⟨PIn.nil w, In.nil w, TIn.nil w⟩
set_option maxRecDepth 100000 in
set_option maxHeartbeats 8000000 in
theorem termAlphas_wrong (t : Tm) (w : World) (vp vi vk : Value) (h : TmIn w t vp vi vk) (hB : TmBd t) (hT : Tab w) (hst : TM.smt t = true) (hok : TM.okt t = false) :
    Calls Tryz.prog 4 #[tmv t vp vi vk] w fun e w' => e = .returned (.bool true) ∧ Below w.heap.size w w' := by
  obtain ⟨hsd, hsz, hpl⟩ := smt_facts hst
  have hA := Lib.hid (fun (w' : World) (hb : Below w.heap.size w w') => awake10_of same_as w' (hT.on hb))
  have hS := Lib.hid (fun (w' : World) (hb : Below w.heap.size w w') => tsmall_any t w' vp vi vk (h.below hb))
  have hR := Lib.hid (fun (w' : World) (hb : Below w.heap.size w w') => tright_any t w' vp vi vk (h.below hb) hB hpl)
  have hO := Lib.hid (fun (w' : World) (hb : Below w.heap.size w w') => town_any t w' vp vi vk (h.below hb) hsd (by omega))
  have hAl := Lib.hid (fun (w' : World) (v1 v2 v3 : Value) (hi : TmIn w' t v1 v2 v3) => (alpha_any t w' v1 v2 v3 hi hB).mono (fun e w2 k => (show e = .returned (.tuple #[zerov, .iface 37 (.int .i64 7)]) ∧ Went w' w2 from ⟨k.2.1 hok, k.2.2⟩)))
  have hTx := Lib.hid (fun (w' : World) (v1 v2 v3 : Value) (hi : TmIn w' t v1 v2 v3) (ht : Tab w') => ttext_any t w' v1 v2 v3 hi hB ht)
  have hGl := Lib.hid (fun (w' : World) (v1 v2 v3 : Value) (hi : TmIn w' t v1 v2 v3) => globals_no t w' v1 v2 v3 hi hB hok)
  have hE := Lib.hid (fun (w' : World) => (equal_any tz tz w' _ _ _ _ _ _ (tz_in w') (tz_in w')).mono (fun _ _ k => BoolIff.ret k (d := true) (by simp)))
  have hSa := Lib.hid (fun (w' : World) (hb : Below w.heap.size w w') => (same_as t t w' vp vi vk vp vi vk (h.below hb) (h.below hb) hB hB).mono (fun _ _ k => BoolIff.ret k (d := false) (by rw [hok]; simp)))
  have hTab := Lib.hid (fun (w' : World) (hb : Below w.heap.size w w') => hT.on hb)
  have hI := Lib.hid (fun w' => is_same 7 w')
  rw [hst] at hS
  rw [hok] at hR
  simp only [hok, if_neg (show ¬ (false = true) by simp), chv] at hTx
  unfold tmv tz at hE
  unfold tmv at hS hR hO hAl hTx hGl hSa ⊢
  unfold zerov at hAl
  skip
  have hM0 := Lib.hid (Lies.made w 28 #[.int .i64 t.k, .int .i64 t.n, .string ⟨t.s.toArray⟩, vp, .int .i64 t.d.k, .int .i64 t.d.n, .string ⟨t.d.s.toArray⟩, vi, vk])
  have c0 := Lib.hid (show Below w.heap.size w (w.alloc (.cells #[.int .i64 t.k, .int .i64 t.n, .string ⟨t.s.toArray⟩, vp, .int .i64 t.d.k, .int .i64 t.d.n, .string ⟨t.d.s.toArray⟩, vi, vk] 28)) from (Below.refl _ w).alloc (Nat.le_refl _) _)
  clear h hB hT hst hok hsd hsz hpl
  have st0 : True := trivial
  go_enter Tryz.func4, Tryz.ntmps4
  go_upto_region 4 with (first
    | (clear st0
       go_at_call 7
       with_reducible refine (hA.out _ c0.out).mono ?_
       rintro e w1 ⟨rfl, hb⟩
       have hM1 := Lib.hid (hM0.out.below hb hM0.out.lt)
       have c1 := Lib.hid (c0.out.trans (Below.mono hb c0.out.size))
       have z0 := hM1.out.cell 0
       have z1 := hM1.out.cell 1
       have z2 := hM1.out.cell 2
       have z3 := hM1.out.cell 3
       have z4 := hM1.out.cell 4
       have z5 := hM1.out.cell 5
       have z6 := hM1.out.cell 6
       have z7 := hM1.out.cell 7
       have z8 := hM1.out.cell 8
       simp only [List.getElem?_cons_succ, List.getElem?_cons_zero] at z0 z1 z2 z3 z4 z5 z6 z7 z8
       clear hb
       have st1 : True := trivial)
    | (clear st1
       go_at_call 8
       with_reducible refine (hS.out _ c1.out).mono ?_
       rintro e w2 ⟨rfl, hb⟩
       have hM2 := Lib.hid (hM1.out.below hb hM1.out.lt)
       have c2 := Lib.hid (c1.out.trans (Below.mono hb c1.out.size))
       clear z0 z1 z2 z3 z4 z5 z6 z7 z8
       have z0 := hM2.out.cell 0
       have z1 := hM2.out.cell 1
       have z2 := hM2.out.cell 2
       have z3 := hM2.out.cell 3
       have z4 := hM2.out.cell 4
       have z5 := hM2.out.cell 5
       have z6 := hM2.out.cell 6
       have z7 := hM2.out.cell 7
       have z8 := hM2.out.cell 8
       simp only [List.getElem?_cons_succ, List.getElem?_cons_zero] at z0 z1 z2 z3 z4 z5 z6 z7 z8
       clear hb hM1 c1
       have st2 : True := trivial)
    | (clear st2
       go_at_call 10
       refine (hO.out _ c2.out).mono ?_
       rintro e w3 ⟨v1, v2, v3, rfl, hn, hb⟩
       have hv := Lib.hid hn.tmin
       clear hn
       have hM3 := Lib.hid (hM2.out.below hb hM2.out.lt)
       have c3 := Lib.hid (c2.out.trans (Below.mono hb c2.out.size))
       clear z0 z1 z2 z3 z4 z5 z6 z7 z8
       clear hb hM2 c2
       have st3 : True := trivial)
    | (clear st3
       go_at_call 15
       refine (hAl.out _ _ _ _ hv.out).mono ?_
       rintro e w4 ⟨rfl, hb⟩
       have hM4 := Lib.hid (hM3.out.below hb hM3.out.lt)
       have c4 := Lib.hid (c3.out.trans (Below.mono hb c3.out.size))
       clear hv
       clear hb hM3 c3
       have st4 : True := trivial))
  have hlx := Lies.made w4 28 #[.int .i64 0, .int .i64 0, .string ⟨#[]⟩, .slice none 0 0, .int .i64 0, .int .i64 0, .string ⟨#[]⟩, .slice none 0 0, .slice none 0 0]
  have hbx : Below w4.heap.size w4 (w4.alloc (.cells #[.int .i64 0, .int .i64 0, .string ⟨#[]⟩, .slice none 0 0, .int .i64 0, .int .i64 0, .string ⟨#[]⟩, .slice none 0 0, .slice none 0 0] 28)) := (Below.refl _ w4).alloc (Nat.le_refl _) _
  obtain ⟨w5, hwx⟩ : ∃ W, w4.alloc (.cells #[.int .i64 0, .int .i64 0, .string ⟨#[]⟩, .slice none 0 0, .int .i64 0, .int .i64 0, .string ⟨#[]⟩, .slice none 0 0, .slice none 0 0] 28) = W := ⟨_, rfl⟩
  rw [hwx] at hlx hbx ⊢
  have hM5 := Lib.hid (hM4.out.below hbx hM4.out.lt)
  have c5 := Lib.hid (c4.out.trans (Below.mono hbx c4.out.size))
  have hK5 := Lib.hid hlx
  clear hwx hlx hbx hM4 c4
  obtain ⟨g3, hgx⟩ : ∃ g, w4.heap.size = g := ⟨_, rfl⟩
  rw [hgx] at hK5 ⊢
  clear hgx
  have z0 := hM5.out.cell 0
  have z1 := hM5.out.cell 1
  have z2 := hM5.out.cell 2
  have z3 := hM5.out.cell 3
  have z4 := hM5.out.cell 4
  have z5 := hM5.out.cell 5
  have z6 := hM5.out.cell 6
  have z7 := hM5.out.cell 7
  have z8 := hM5.out.cell 8
  simp only [List.getElem?_cons_succ, List.getElem?_cons_zero] at z0 z1 z2 z3 z4 z5 z6 z7 z8
  have st0 : True := trivial
  go_wp2_with (first
    | (go_at_call 14
       refine (hI.out _).mono ?_
       rintro e w' ⟨rfl, rfl⟩)
    | (clear st0
       go_at_call 10
       refine (hO.out _ c5.out).mono ?_
       rintro e w6 ⟨v1, v2, v3, rfl, hn, hb⟩
       have hv := Lib.hid hn.tmin
       clear hn
       have hM6 := Lib.hid (hM5.out.below hb hM5.out.lt)
       have hK6 := Lib.hid (hK5.out.below hb hK5.out.lt)
       have c6 := Lib.hid (c5.out.trans (Below.mono hb c5.out.size))
       clear z0 z1 z2 z3 z4 z5 z6 z7 z8
       clear hb hM5 hK5 c5
       have st1 : True := trivial)
    | (clear st1
       go_at_call 16
       refine (hTx.out _ _ _ _ hv.out (hTab.out _ c6.out)).mono ?_
       rintro e w7 ⟨rfl, hb⟩
       have hM7 := Lib.hid (hM6.out.below hb hM6.out.lt)
       have hK7 := Lib.hid (hK6.out.below hb hK6.out.lt)
       have c7 := Lib.hid (c6.out.trans (Below.mono hb c6.out.size))
       clear hv
       have z0 := hM7.out.cell 0
       have z1 := hM7.out.cell 1
       have z2 := hM7.out.cell 2
       have z3 := hM7.out.cell 3
       have z4 := hM7.out.cell 4
       have z5 := hM7.out.cell 5
       have z6 := hM7.out.cell 6
       have z7 := hM7.out.cell 7
       have z8 := hM7.out.cell 8
       simp only [List.getElem?_cons_succ, List.getElem?_cons_zero] at z0 z1 z2 z3 z4 z5 z6 z7 z8
       clear hb hM6 hK6 c6
       have st2 : True := trivial)
    | (clear st2
       go_at_call 10
       refine (hO.out _ c7.out).mono ?_
       rintro e w8 ⟨v1, v2, v3, rfl, hn, hb⟩
       have hv := Lib.hid hn.tmin
       clear hn
       have hM8 := Lib.hid (hM7.out.below hb hM7.out.lt)
       have hK8 := Lib.hid (hK7.out.below hb hK7.out.lt)
       have c8 := Lib.hid (c7.out.trans (Below.mono hb c7.out.size))
       clear z0 z1 z2 z3 z4 z5 z6 z7 z8
       clear hb hM7 hK7 c7
       have st3 : True := trivial)
    | (clear st3
       go_at_call 17
       refine (hGl.out _ _ _ _ hv.out).mono ?_
       rintro e w9 ⟨rfl, hb⟩
       have hM9 := Lib.hid (hM8.out.below hb hM8.out.lt)
       have hK9 := Lib.hid (hK8.out.below hb hK8.out.lt)
       have c9 := Lib.hid (c8.out.trans (Below.mono hb c8.out.size))
       clear hv
       have z0 := hM9.out.cell 0
       have z1 := hM9.out.cell 1
       have z2 := hM9.out.cell 2
       have z3 := hM9.out.cell 3
       have z4 := hM9.out.cell 4
       have z5 := hM9.out.cell 5
       have z6 := hM9.out.cell 6
       have z7 := hM9.out.cell 7
       have z8 := hM9.out.cell 8
       simp only [List.getElem?_cons_succ, List.getElem?_cons_zero] at z0 z1 z2 z3 z4 z5 z6 z7 z8
       clear hb hM8 hK8 c8
       have st4 : True := trivial)
    | (clear st4
       go_at_call 13
       refine (hR.out _ c9.out).mono ?_
       rintro e w10 ⟨rfl, hb⟩
       have hM10 := Lib.hid (hM9.out.below hb hM9.out.lt)
       have hK10 := Lib.hid (hK9.out.below hb hK9.out.lt)
       have c10 := Lib.hid (c9.out.trans (Below.mono hb c9.out.size))
       clear z0 z1 z2 z3 z4 z5 z6 z7 z8
       have y0 := hK10.out.cell 0
       have y1 := hK10.out.cell 1
       have y2 := hK10.out.cell 2
       have y3 := hK10.out.cell 3
       have y4 := hK10.out.cell 4
       have y5 := hK10.out.cell 5
       have y6 := hK10.out.cell 6
       have y7 := hK10.out.cell 7
       have y8 := hK10.out.cell 8
       simp only [List.getElem?_cons_succ, List.getElem?_cons_zero] at y0 y1 y2 y3 y4 y5 y6 y7 y8
       clear hb hM9 hK9 c9
       have st5 : True := trivial)
    | (clear st5
       go_at_call 18
       refine (hE.out _).mono ?_
       rintro e w11 ⟨rfl, hb⟩
       have hM11 := Lib.hid (hM10.out.below hb hM10.out.lt)
       have hK11 := Lib.hid (hK10.out.below hb hK10.out.lt)
       have c11 := Lib.hid (c10.out.trans (Below.mono hb c10.out.size))
       clear y0 y1 y2 y3 y4 y5 y6 y7 y8
       have z0 := hM11.out.cell 0
       have z1 := hM11.out.cell 1
       have z2 := hM11.out.cell 2
       have z3 := hM11.out.cell 3
       have z4 := hM11.out.cell 4
       have z5 := hM11.out.cell 5
       have z6 := hM11.out.cell 6
       have z7 := hM11.out.cell 7
       have z8 := hM11.out.cell 8
       simp only [List.getElem?_cons_succ, List.getElem?_cons_zero] at z0 z1 z2 z3 z4 z5 z6 z7 z8
       clear hb hM10 hK10 c10
       have st6 : True := trivial)
    | (clear st6
       go_at_call 19
       refine (hSa.out _ c11.out).mono ?_
       rintro e w12 ⟨rfl, hb⟩
       have hM12 := Lib.hid (hM11.out.below hb hM11.out.lt)
       have hK12 := Lib.hid (hK11.out.below hb hK11.out.lt)
       have c12 := Lib.hid (c11.out.trans (Below.mono hb c11.out.size))
       clear z0 z1 z2 z3 z4 z5 z6 z7 z8
       clear hb hM11 hK11 c11
       have st7 : True := trivial))
  go_ret
  exact ⟨rfl, c12.out⟩
end Go.Proofs.YtpiekdcbjkgipaaGreatDoor
