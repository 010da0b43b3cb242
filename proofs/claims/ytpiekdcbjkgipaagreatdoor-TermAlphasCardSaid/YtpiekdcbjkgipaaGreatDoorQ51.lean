/- The law TermAlphas, walked: the main case. -/
import Derived.Test.YtpiekdcbjkgipaaGreatDoorQ50
import Derived.Test.YtpiekdcbjkgipaaGreatDoorQ47
import Derived.Test.YtpiekdcbjkgipaaGreatDoorQ41
import Derived.Test.YtpiekdcbjkgipaaGreatDoorQ43
import Derived.Test.YtpiekdcbjkgipaaGreatDoorQ42
namespace Go.Proofs.YtpiekdcbjkgipaaGreatDoor
open Go.ChangeShapes Go.WideShapes Go.ChangeAt Go.RowKit Go.Deep
open TM (Tl Tm)
theorem bytes_eq {l : List UInt8} {T : ByteArray} (h : T.data.toList = l) : (⟨l.toArray⟩ : ByteArray) = T := by
  cases T
  subst h
  simp
set_option maxRecDepth 100000 in
theorem rText_any (t : Tm) (w : World) (vp vi vk : Value) (h : TmIn w t vp vi vk) (hB : TmBd t) (hsd : TM.sd1 t = true) (hsz : TM.sz t.ks ≤ 5000) (hpl : (t.ps ++ TM.prs t.ks).length ≤ 1000000) (hok : TM.okt t = true) :
    Calls Tryz.prog 22 #[tmv t vp vi vk] w fun e w' => e = .returned (.string ⟨(TM.ttx (TM.alpha t)).toArray⟩) ∧ Went w w' := by
  obtain ⟨-, -, -, h4, -, -, -⟩ := TM.okt_parts hok
  have h4' := h4
  unfold TM.ok1 at h4'
  rw [Bool.and_eq_true] at h4'
  have hw1 : TM.Rw1 (TM.alpha t) := TM.nm1_rw h4'.1 hB.n hpl
  have hwf : TM.Rwf (TM.alpha t).ks := TM.nmt_rw hpl h4'.2 hB.ks
  have haz : TM.sz (TM.alpha t).ks ≤ 5000 := by
    show TM.sz (TM.nmt _ t.ks) ≤ 5000
    rw [TM.nmt_sz]; omega
  have hAt := Lib.hid (fun (w' : World) (hb : Below w.heap.size w w') => ralpha_any t w' vp vi vk (h.below hb) hsd hsz hpl)
  have hRx := Lib.hid (fun (w' : World) (v1 v2 v3 : Value) (hi : TmIn w' (TM.alpha t) v1 v2 v3) => rtx_any (TM.alpha t) w' v1 v2 v3 hi hw1 hwf haz)
  unfold StrN at hRx
  obtain ⟨X, hX⟩ : ∃ X, TM.ttx (TM.alpha t) = X := ⟨_, rfl⟩
  rw [hX] at hRx ⊢
  obtain ⟨a, ha⟩ : ∃ a, TM.alpha t = a := ⟨_, rfl⟩
  rw [ha] at hAt hRx
  unfold tmv at hAt hRx ⊢
  have c0 : Below w.heap.size w (w.alloc (.cells #[.int .i64 t.k, .int .i64 t.n, .string ⟨t.s.toArray⟩, vp, .int .i64 t.d.k, .int .i64 t.d.n, .string ⟨t.d.s.toArray⟩, vi, vk] 28)) := (Below.refl _ w).alloc (Nat.le_refl _) _
  clear h hB hsd hsz hpl hok h4 h4' hw1 hwf haz hX ha
  go_enter Tryz.func22, Tryz.ntmps22
  go_wp2_with (first
    | (go_at_call 21
       refine (hAt.out _ c0).mono ?_
       rintro e w1 ⟨v1, v2, v3, rfl, hi, hb⟩
       obtain ⟨P9, p9, rfl⟩ := hi.p.read
       obtain ⟨I9, q9, rfl⟩ := hi.d.read
       obtain ⟨K9, r9, rfl⟩ := hi.k.read
       have hi' := Lib.hid hi
       have c1 := Lib.hid (c0.trans (Below.mono hb c0.size))
       clear hi hb)
    | (go_at_call 44
       refine (hRx.out _ _ _ _ hi'.out).mono ?_
       rintro e w2 ⟨⟨T, rfl, hT⟩, hb2⟩
       have hT' := Lib.hid hT
       clear hT))
  go_ret
  exact ⟨by rw [bytes_eq hT'.out]; rfl, c1.out.trans (Below.mono hb2 c1.out.size)⟩
/-- what lies there in the last region: the two boxes, and the term in one of them -/
structure Fa (w : World) (t a : Tm) (vp vi vk p8 i8 k8 : Value) (g8 : Nat) (w' : World) : Prop where
  bl : Below w.heap.size w w'
  lt : Lies w' w.heap.size 28 (tcells t vp vi vk)
  l8 : Lies w' g8 28 (tcells a p8 i8 k8)
  i8 : TmIn w' a p8 i8 k8
theorem Fa.below {w : World} {t a : Tm} {vp vi vk p8 i8 k8 : Value} {g8 : Nat} {w' w2 : World} (h : Fa w t a vp vi vk p8 i8 k8 g8 w') (k : Below w'.heap.size w' w2) : Fa w t a vp vi vk p8 i8 k8 g8 w2 :=
  ⟨h.bl.trans (Below.mono k h.bl.size), h.lt.below k h.lt.lt, h.l8.below k h.l8.lt, h.i8.below k⟩
theorem Fa.drew {w : World} {t a : Tm} {vp vi vk p8 i8 k8 : Value} {g8 : Nat} {w' : World} (h : Fa w t a vp vi vk p8 i8 k8 g8 w') : Fa w t a vp vi vk p8 i8 k8 g8 w'.drew := h.below (below_of_drew (w := w') (w' := w'.drew) (Below.refl _ _))
set_option maxRecDepth 100000 in
set_option maxHeartbeats 8000000 in
theorem termAlphas_yes (t : Tm) (w : World) (vp vi vk : Value) (h : TmIn w t vp vi vk) (hB : TmBd t) (hT : Tab w) (hst : TM.smt t = true) (hok : TM.okt t = true) :
    Calls Tryz.prog 4 #[tmv t vp vi vk] w fun e w' => e = .returned (.bool true) ∧ Below w.heap.size w w' := by
  obtain ⟨hsd, hsz, hpl⟩ := smt_facts hst
  have hA := Lib.hid (fun (w' : World) (hb : Below w.heap.size w w') => awake10_of same_as w' (hT.on hb))
  have hS := Lib.hid (fun (w' : World) (hb : Below w.heap.size w w') => tsmall_any t w' vp vi vk (h.below hb))
  have hR := Lib.hid (fun (w' : World) (hb : Below w.heap.size w w') => tright_any t w' vp vi vk (h.below hb) hB hpl)
  have hO := Lib.hid (fun (w' : World) (hb : Below w.heap.size w w') => town_any t w' vp vi vk (h.below hb) hsd (by omega))
  have hAl := Lib.hid (fun (w' : World) (v1 v2 v3 : Value) (hi : TmIn w' t v1 v2 v3) => alpha_ok hi hB hok)
  have hTx := Lib.hid (fun (w' : World) (v1 v2 v3 : Value) (hi : TmIn w' t v1 v2 v3) (ht : Tab w') => ttext_any t w' v1 v2 v3 hi hB ht)
  have hGl := Lib.hid (fun (w' : World) (v1 v2 v3 : Value) (hi : TmIn w' t v1 v2 v3) => globals_any t w' v1 v2 v3 hi hB hok)
  have hGr := Lib.hid (fun (w' : World) (hb : Below w.heap.size w w') => rglobals_any t w' vp vi vk (h.below hb) (by omega))
  have hAt := Lib.hid (fun (w' : World) (hb : Below w.heap.size w w') => ralpha_any t w' vp vi vk (h.below hb) hsd (by omega) hpl)
  have hRt := Lib.hid (fun (w' : World) (hb : Below w.heap.size w w') => rText_any t w' vp vi vk (h.below hb) hB hsd (by omega) hpl hok)
  have hE := Lib.hid (fun (w' : World) (a1 a2 a3 b1 b2 b3 : Value) (hi : TmIn w' (TM.alpha t) a1 a2 a3) (hj : TmIn w' (TM.alpha t) b1 b2 b3) => (equal_any _ _ w' a1 a2 a3 b1 b2 b3 hi hj).mono (fun _ _ k => BoolIff.ret k (d := true) (by simp)))
  have hTab := Lib.hid (fun (w' : World) (hb : Below w.heap.size w w') => hT.on hb)
  rw [hst] at hS
  rw [hok] at hR
  simp only [hok, if_true, chv] at hTx
  obtain ⟨TX, hTX⟩ : ∃ T : ByteArray, (⟨(TM.ttx (TM.alpha t)).toArray⟩ : ByteArray) = T := ⟨_, rfl⟩
  obtain ⟨a, ha⟩ : ∃ a, TM.alpha t = a := ⟨_, rfl⟩
  rw [hTX] at hTx hRt
  rw [ha] at hAl hAt hE
  obtain ⟨gl, hgl⟩ : ∃ g, TM.gset t = g := ⟨_, rfl⟩
  rw [hgl] at hGl hGr
  obtain ⟨N, hN⟩ : ∃ N, gl.length = N := ⟨_, rfl⟩
  have hN' := Lib.hid hN
  have hNs : N ≤ 5001 := by
    rw [← hN, ← hgl]
    have := TM.gset_len t
    omega
  unfold tmv at hS hR hO hAl hTx hGl hGr hAt hRt hE ⊢
  have hM0 := Lib.hid (Lies.made w 28 #[.int .i64 t.k, .int .i64 t.n, .string ⟨t.s.toArray⟩, vp, .int .i64 t.d.k, .int .i64 t.d.n, .string ⟨t.d.s.toArray⟩, vi, vk])
  have c0 := Lib.hid (show Below w.heap.size w (w.alloc (.cells #[.int .i64 t.k, .int .i64 t.n, .string ⟨t.s.toArray⟩, vp, .int .i64 t.d.k, .int .i64 t.d.n, .string ⟨t.d.s.toArray⟩, vi, vk] 28)) from (Below.refl _ w).alloc (Nat.le_refl _) _)
  clear h hB hT hst hok hsd hsz hpl hTX ha hgl hN
  have st0 : True := trivial
  go_enter Tryz.func4, Tryz.ntmps4
  go_upto_region 4 with (first
    | (clear st0
       go_at_call 7
       with_reducible refine (hA.out _ c0.out).mono ?_
       rintro e w1 ⟨rfl, hb⟩
       have hM1 := Lib.hid (hM0.out.below hb hM0.out.lt)
       have c1 := Lib.hid (c0.out.trans (Below.mono hb c0.out.size))
       have z0 := hM1.out.cell 0
       have z1 := hM1.out.cell 1
       have z2 := hM1.out.cell 2
       have z3 := hM1.out.cell 3
       have z4 := hM1.out.cell 4
       have z5 := hM1.out.cell 5
       have z6 := hM1.out.cell 6
       have z7 := hM1.out.cell 7
       have z8 := hM1.out.cell 8
       simp only [List.getElem?_cons_succ, List.getElem?_cons_zero] at z0 z1 z2 z3 z4 z5 z6 z7 z8
       clear hb
       have st1 : True := trivial)
    | (clear st1
       go_at_call 8
       with_reducible refine (hS.out _ c1.out).mono ?_
       rintro e w2 ⟨rfl, hb⟩
       have hM2 := Lib.hid (hM1.out.below hb hM1.out.lt)
       have c2 := Lib.hid (c1.out.trans (Below.mono hb c1.out.size))
       clear z0 z1 z2 z3 z4 z5 z6 z7 z8
       have z0 := hM2.out.cell 0
       have z1 := hM2.out.cell 1
       have z2 := hM2.out.cell 2
       have z3 := hM2.out.cell 3
       have z4 := hM2.out.cell 4
       have z5 := hM2.out.cell 5
       have z6 := hM2.out.cell 6
       have z7 := hM2.out.cell 7
       have z8 := hM2.out.cell 8
       simp only [List.getElem?_cons_succ, List.getElem?_cons_zero] at z0 z1 z2 z3 z4 z5 z6 z7 z8
       clear hb hM1 c1
       have st2 : True := trivial)
    | (clear st2
       go_at_call 10
       refine (hO.out _ c2.out).mono ?_
       rintro e w3 ⟨v1, v2, v3, rfl, hn, hb⟩
       have hv := Lib.hid hn.tmin
       clear hn
       have hM3 := Lib.hid (hM2.out.below hb hM2.out.lt)
       have c3 := Lib.hid (c2.out.trans (Below.mono hb c2.out.size))
       clear z0 z1 z2 z3 z4 z5 z6 z7 z8
       clear hb hM2 c2
       have st3 : True := trivial)
    | (clear st3
       go_at_call 15
       refine (hAl.out _ _ _ _ hv.out).mono ?_
       rintro e w4 ⟨v7, v8, v9, rfl, hi, hb⟩
       obtain ⟨P9, p9, rfl⟩ := hi.p.read
       obtain ⟨I9, q9, rfl⟩ := hi.d.read
       obtain ⟨K9, r9, rfl⟩ := hi.k.read
       have hi4 := Lib.hid hi
       clear hi
       have hM4 := Lib.hid (hM3.out.below hb hM3.out.lt)
       have c4 := Lib.hid (c3.out.trans (Below.mono hb c3.out.size))
       clear hv
       clear hb hM3 c3
       have st4 : True := trivial))
  have hi5' := Lib.hid (hi4.out.below ((Below.refl _ w4).alloc (Nat.le_refl _) (.cells #[.int .i64 a.k, .int .i64 a.n, .string ⟨a.s.toArray⟩, .slice P9 a.ps.length p9, .int .i64 a.d.k, .int .i64 a.d.n, .string ⟨a.d.s.toArray⟩, .slice I9 a.d.is.len q9, .slice K9 a.ks.len r9] 28)))
  clear hi4
  have hlx := Lies.made w4 28 #[.int .i64 a.k, .int .i64 a.n, .string ⟨a.s.toArray⟩, .slice P9 a.ps.length p9, .int .i64 a.d.k, .int .i64 a.d.n, .string ⟨a.d.s.toArray⟩, .slice I9 a.d.is.len q9, .slice K9 a.ks.len r9]
  have hbx : Below w4.heap.size w4 (w4.alloc (.cells #[.int .i64 a.k, .int .i64 a.n, .string ⟨a.s.toArray⟩, .slice P9 a.ps.length p9, .int .i64 a.d.k, .int .i64 a.d.n, .string ⟨a.d.s.toArray⟩, .slice I9 a.d.is.len q9, .slice K9 a.ks.len r9] 28)) := (Below.refl _ w4).alloc (Nat.le_refl _) _
  obtain ⟨w5, hwx⟩ : ∃ W, w4.alloc (.cells #[.int .i64 a.k, .int .i64 a.n, .string ⟨a.s.toArray⟩, .slice P9 a.ps.length p9, .int .i64 a.d.k, .int .i64 a.d.n, .string ⟨a.d.s.toArray⟩, .slice I9 a.d.is.len q9, .slice K9 a.ks.len r9] 28) = W := ⟨_, rfl⟩
  rw [hwx] at hlx hbx hi5' ⊢
  have hM5 := Lib.hid (hM4.out.below hbx hM4.out.lt)
  have c5 := Lib.hid (c4.out.trans (Below.mono hbx c4.out.size))
  have hK5 := Lib.hid hlx
  clear hwx hlx hbx hM4 c4
  obtain ⟨g3, hgx⟩ : ∃ g, w4.heap.size = g := ⟨_, rfl⟩
  rw [hgx] at hK5 ⊢
  clear hgx
  have hi5 := hi5'
  clear hi5'
  have z0 := hM5.out.cell 0
  have z1 := hM5.out.cell 1
  have z2 := hM5.out.cell 2
  have z3 := hM5.out.cell 3
  have z4 := hM5.out.cell 4
  have z5 := hM5.out.cell 5
  have z6 := hM5.out.cell 6
  have z7 := hM5.out.cell 7
  have z8 := hM5.out.cell 8
  simp only [List.getElem?_cons_succ, List.getElem?_cons_zero] at z0 z1 z2 z3 z4 z5 z6 z7 z8
  have st0 : True := trivial
  go_upto_region 9 with (first
    | (clear st0
       go_at_call 10
       refine (hO.out _ c5.out).mono ?_
       rintro e w6 ⟨v1, v2, v3, rfl, hn, hb⟩
       have hv := Lib.hid hn.tmin
       clear hn
       have hi6 := Lib.hid (hi5.out.below hb)
       clear hi5
       have hM6 := Lib.hid (hM5.out.below hb hM5.out.lt)
       have hK6 := Lib.hid (hK5.out.below hb hK5.out.lt)
       have c6 := Lib.hid (c5.out.trans (Below.mono hb c5.out.size))
       clear z0 z1 z2 z3 z4 z5 z6 z7 z8
       clear hb hM5 hK5 c5
       have st1 : True := trivial)
    | (clear st1
       go_at_call 16
       refine (hTx.out _ _ _ _ hv.out (hTab.out _ c6.out)).mono ?_
       rintro e w7 ⟨rfl, hb⟩
       have hi7 := Lib.hid (hi6.out.below hb)
       clear hi6
       have hM7 := Lib.hid (hM6.out.below hb hM6.out.lt)
       have hK7 := Lib.hid (hK6.out.below hb hK6.out.lt)
       have c7 := Lib.hid (c6.out.trans (Below.mono hb c6.out.size))
       clear hv
       have z0 := hM7.out.cell 0
       have z1 := hM7.out.cell 1
       have z2 := hM7.out.cell 2
       have z3 := hM7.out.cell 3
       have z4 := hM7.out.cell 4
       have z5 := hM7.out.cell 5
       have z6 := hM7.out.cell 6
       have z7 := hM7.out.cell 7
       have z8 := hM7.out.cell 8
       simp only [List.getElem?_cons_succ, List.getElem?_cons_zero] at z0 z1 z2 z3 z4 z5 z6 z7 z8
       clear hb hM6 hK6 c6
       have st2 : True := trivial)
    | (clear st2
       go_at_call 10
       refine (hO.out _ c7.out).mono ?_
       rintro e w8 ⟨v1, v2, v3, rfl, hn, hb⟩
       have hv := Lib.hid hn.tmin
       clear hn
       have hi8 := Lib.hid (hi7.out.below hb)
       clear hi7
       have hM8 := Lib.hid (hM7.out.below hb hM7.out.lt)
       have hK8 := Lib.hid (hK7.out.below hb hK7.out.lt)
       have c8 := Lib.hid (c7.out.trans (Below.mono hb c7.out.size))
       clear z0 z1 z2 z3 z4 z5 z6 z7 z8
       clear hb hM7 hK7 c7
       have st3 : True := trivial)
    | (clear st3
       go_at_call 17
       refine (hGl.out _ _ _ _ hv.out).mono ?_
       rintro e w9 ⟨vl, rfl, hr, hb⟩
       have hi9 := Lib.hid (hi8.out.below hb)
       clear hi8
       obtain ⟨A7, c7x, rfl, -⟩ := own_read hr
       have hr9 := Lib.hid (show OwnStr w9 0 (.slice A7 gl.length c7x) gl from own_base hr (Nat.zero_le _))
       clear hr
       have hM9 := Lib.hid (hM8.out.below hb hM8.out.lt)
       have hK9 := Lib.hid (hK8.out.below hb hK8.out.lt)
       have c9 := Lib.hid (c8.out.trans (Below.mono hb c8.out.size))
       clear hv
       have z0 := hM9.out.cell 0
       have z1 := hM9.out.cell 1
       have z2 := hM9.out.cell 2
       have z3 := hM9.out.cell 3
       have z4 := hM9.out.cell 4
       have z5 := hM9.out.cell 5
       have z6 := hM9.out.cell 6
       have z7 := hM9.out.cell 7
       have z8 := hM9.out.cell 8
       simp only [List.getElem?_cons_succ, List.getElem?_cons_zero] at z0 z1 z2 z3 z4 z5 z6 z7 z8
       clear hb hM8 hK8 c8
       have st4 : True := trivial)
    | (clear st4
       go_at_call 13
       refine (hR.out _ c9.out).mono ?_
       rintro e w10 ⟨rfl, hb⟩
       have hi10 := Lib.hid (hi9.out.below hb)
       clear hi9
       have hr10 := Lib.hid (show OwnStr w10 0 (.slice A7 gl.length c7x) gl from own_below hr9.out hb)
       clear hr9
       have hM10 := Lib.hid (hM9.out.below hb hM9.out.lt)
       have hK10 := Lib.hid (hK9.out.below hb hK9.out.lt)
       have c10 := Lib.hid (c9.out.trans (Below.mono hb c9.out.size))
       clear z0 z1 z2 z3 z4 z5 z6 z7 z8
       have z0 := hM10.out.cell 0
       have z1 := hM10.out.cell 1
       have z2 := hM10.out.cell 2
       have z3 := hM10.out.cell 3
       have z4 := hM10.out.cell 4
       have z5 := hM10.out.cell 5
       have z6 := hM10.out.cell 6
       have z7 := hM10.out.cell 7
       have z8 := hM10.out.cell 8
       simp only [List.getElem?_cons_succ, List.getElem?_cons_zero] at z0 z1 z2 z3 z4 z5 z6 z7 z8
       clear hb hM9 hK9 c9
       have st5 : True := trivial)
    | (clear st5
       go_at_call 20
       refine (hGr.out _ c10.out).mono ?_
       rintro e w11 ⟨vm, rfl, hs, hb⟩
       have hi11 := Lib.hid (hi10.out.below hb)
       clear hi10
       obtain ⟨A8, c8x, rfl, -⟩ := own_read hs
       have hs11 := Lib.hid (show OwnStr w11 0 (.slice A8 gl.length c8x) gl from own_base hs (Nat.zero_le _))
       have hr11 := Lib.hid (show OwnStr w11 0 (.slice A7 gl.length c7x) gl from own_below hr10.out hb)
       clear hr10 hs
       have hM11 := Lib.hid (hM10.out.below hb hM10.out.lt)
       have hK11 := Lib.hid (hK10.out.below hb hK10.out.lt)
       have c11 := Lib.hid (c10.out.trans (Below.mono hb c10.out.size))
       clear z0 z1 z2 z3 z4 z5 z6 z7 z8
       clear hb hM10 hK10 c10
       have st6 : True := trivial))
  have hF : Fa w t a vp vi vk (.slice P9 a.ps.length p9) (.slice I9 a.d.is.len q9) (.slice K9 a.ks.len r9) g3 w11 := ⟨c11.out, hM11.out, hK11.out, hi11.out⟩
  rw [hN'.out] at hr11 hs11 ⊢
  have hF' := Lib.hid (And.intro hF (And.intro hr11.out hs11.out))
  clear hM11 hK11 hi11 c11 hF hr11 hs11 hA hS hR hO hAl hTx hGl hGr hTab
  go_wp2_with fail
  go_loopw [73] (fun i wr => ∃ j : Nat, j ≤ N ∧ i = .int .i64 j ∧ Hid (Fa w t a vp vi vk (.slice P9 a.ps.length p9) (.slice I9 a.d.is.len q9) (.slice K9 a.ks.len r9) g3 wr ∧ OwnStr wr 0 (.slice A7 N c7x) gl ∧ OwnStr wr 0 (.slice A8 N c8x) gl)) (fun i _ => N - (intOf i).toNat)
  case atStart => exact ⟨0, Nat.zero_le _, rfl, hF'⟩
  case round =>
    clear hF'
    obtain ⟨j, hj, rfl, hF'⟩ := hrel
    by_cases hlt : j < N
    · obtain ⟨x, hx⟩ : ∃ x, gl[j]? = some x := ⟨_, List.getElem?_eq_getElem (by rw [hN'.out]; exact hlt)⟩
      obtain ⟨ga, ca, ea, hga, l1⟩ := hF'.out.2.1.at_ hx
      obtain ⟨gb, cb, eb, hgb, l2⟩ := hF'.out.2.2.at_ hx
      injection ea with ea1 ea2 ea3
      injection eb with eb1 eb2 eb3
      subst ea1 eb1
      unfold encStr at l1 l2
      obtain ⟨X, hX⟩ : ∃ X : ByteArray, (⟨x.toArray⟩ : ByteArray) = X := ⟨_, rfl⟩
      rw [hX] at l1 l2
      have hxx : (X.toList == X.toList) = true := by simp
      clear hx hX ea2 ea3 eb2 eb3
      go_wp2_with fail
      go_region
      go_wp2_with fail
      go_roundw
      case rel => exact ⟨j + 1, by omega, by go_num, Lib.hid ⟨hF'.out.1.drew, hF'.out.2.1, hF'.out.2.2⟩⟩
      case measure => simp [intOf]; omega
    · obtain rfl : j = N := by omega
      go_wp2_with fail
      have hF := hF'.out.1
      clear hF'
      refine wp_region_held_drew (S := (fun w' => Fa w t a vp vi vk (.slice P9 a.ps.length p9) (.slice I9 a.d.is.len q9) (.slice K9 a.ks.len r9) g3 w')) rfl hF.drew (fun hHeld => ?_)
      clear hF
      refine wpAnyH_take (i := 0) (oi := { dst := some 86, op := Go.Op.move (Go.Operand.tmp 4), type := 32, pos := "law.go:50", after := #[], guard := none }) (v := ?_) rfl (by kernel_rfl) (by kernel_rfl) (by kernel_rfl) (fun _ _ _ h => h) (Or.inl ⟨by rfl, ?_⟩) (by assumption) ?_
      rotate_left
      · intro w hSw; clear hSw; go_simp; try with_reducible rfl
      try simp only [Act.put, List.setIfInBounds_toArray, List.set_cons_zero, List.set_cons_succ]
      refine wpAnyH_take (i := 1) (oi := { dst := some 87, op := Go.Op.binOp Go.BinOp.eql 32 (Go.Operand.tmp 86) (Go.Operand.const Go.Value.nilIface) 32, type := 4, pos := "law.go:50", after := #[{ on := 0, ground := Go.Ground.data }], guard := none }) (v := ?_) rfl (by kernel_rfl) (by kernel_rfl) (by kernel_rfl) (fun _ _ _ h => h) (Or.inl ⟨by rfl, ?_⟩) (by assumption) ?_
      rotate_left
      · intro w hSw; clear hSw; go_simp; try with_reducible rfl
      try simp only [Act.put, List.setIfInBounds_toArray, List.set_cons_zero, List.set_cons_succ]
      refine wpAnyH_take (i := 2) (oi := { dst := some 88, op := Go.Op.move (Go.Operand.tmp 87), type := 4, pos := "law.go:50", after := #[{ on := 1, ground := Go.Ground.data }], guard := none }) (v := ?_) rfl (by kernel_rfl) (by kernel_rfl) (by kernel_rfl) (fun _ _ _ h => h) (Or.inl ⟨by rfl, ?_⟩) (by assumption) ?_
      rotate_left
      · intro w hSw; clear hSw; go_simp; try with_reducible rfl
      try simp only [Act.put, List.setIfInBounds_toArray, List.set_cons_zero, List.set_cons_succ]
      refine wpAnyH_take (i := 3) (oi := { dst := some 89, op := Go.Op.move (Go.Operand.tmp 6), type := 32, pos := "law.go:50", after := #[{ on := 2, ground := Go.Ground.guard }], guard := some (2, true) }) (v := ?_) rfl (by kernel_rfl) (by kernel_rfl) (by kernel_rfl) (fun _ _ _ h => h) (Or.inl ⟨by rfl, ?_⟩) (by assumption) ?_
      rotate_left
      · intro w hSw; clear hSw; go_simp; try with_reducible rfl
      try simp only [Act.put, List.setIfInBounds_toArray, List.set_cons_zero, List.set_cons_succ]
      refine wpAnyH_take (i := 4) (oi := { dst := some 90, op := Go.Op.binOp Go.BinOp.eql 32 (Go.Operand.tmp 89) (Go.Operand.const Go.Value.nilIface) 32, type := 4, pos := "law.go:50", after := #[{ on := 3, ground := Go.Ground.data }, { on := 2, ground := Go.Ground.guard }], guard := some (2, true) }) (v := ?_) rfl (by kernel_rfl) (by kernel_rfl) (by kernel_rfl) (fun _ _ _ h => h) (Or.inl ⟨by rfl, ?_⟩) (by assumption) ?_
      rotate_left
      · intro w hSw; clear hSw; go_simp; try with_reducible rfl
      try simp only [Act.put, List.setIfInBounds_toArray, List.set_cons_zero, List.set_cons_succ]
      refine wpAnyH_take (i := 5) (oi := { dst := some 91, op := Go.Op.pick (Go.Operand.tmp 88) (Go.Operand.tmp 90) (Go.Operand.const (Go.Value.bool false)), type := 4, pos := "law.go:50", after := #[{ on := 2, ground := Go.Ground.data }, { on := 4, ground := Go.Ground.data }], guard := none }) (v := ?_) rfl (by kernel_rfl) (by kernel_rfl) (by kernel_rfl) (fun _ _ _ h => h) (Or.inl ⟨by rfl, ?_⟩) (by assumption) ?_
      rotate_left
      · intro w hSw; clear hSw; go_simp; try with_reducible rfl
      try simp only [Act.put, List.setIfInBounds_toArray, List.set_cons_zero, List.set_cons_succ]
      refine wpAnyH_take (i := 6) (oi := { dst := some 92, op := Go.Op.move (Go.Operand.tmp 91), type := 4, pos := "law.go:50", after := #[{ on := 5, ground := Go.Ground.data }, { on := 2, ground := Go.Ground.chain }], guard := none }) (v := ?_) rfl (by kernel_rfl) (by kernel_rfl) (by kernel_rfl) (fun _ _ _ h => h) (Or.inl ⟨by rfl, ?_⟩) (by assumption) ?_
      rotate_left
      · intro w hSw; clear hSw; go_simp; try with_reducible rfl
      try simp only [Act.put, List.setIfInBounds_toArray, List.set_cons_zero, List.set_cons_succ]
      refine wpAnyH_take (i := 7) (oi := { dst := some 93, op := Go.Op.load 28 (Go.Operand.tmp 3), type := 28, pos := "law.go:50", after := #[{ on := 6, ground := Go.Ground.guard }], guard := some (6, true) }) (v := _) rfl (by kernel_rfl) (by kernel_rfl) (by kernel_rfl) (fun _ _ _ h => h) (Or.inl ⟨by rfl, fun w' hS => load_term w' _ _ _ _ _ _ _ _ _ _ _ _ _ rfl rfl hS.l8⟩) (by assumption) ?_
      try simp only [Act.put, List.setIfInBounds_toArray, List.set_cons_zero, List.set_cons_succ]
      refine wpAnyH_take (i := 8) (oi := { dst := some 94, op := Go.Op.load 28 (Go.Operand.tmp 1), type := 28, pos := "law.go:50", after := #[{ on := 6, ground := Go.Ground.guard }], guard := some (6, true) }) (v := _) rfl (by kernel_rfl) (by kernel_rfl) (by kernel_rfl) (fun _ _ _ h => h) (Or.inl ⟨by rfl, fun w' hS => load_term w' _ _ _ _ _ _ _ _ _ _ _ _ _ rfl rfl hS.lt⟩) (by assumption) ?_
      try simp only [Act.put, List.setIfInBounds_toArray, List.set_cons_zero, List.set_cons_succ]
      refine wpAnyH_ready (rs := [9]) (by kernel_rfl) (by simp) ?_
      refine AllReadyH.cons (o := { dst := some 95, op := Go.Op.call { callee := Go.Callee.value (Go.Operand.func 21), args := #[Go.Operand.tmp 94], argTypes := #[28] }, type := 28, pos := "law.go:50", after := #[{ on := 8, ground := Go.Ground.data }, { on := 6, ground := Go.Ground.chain }, { on := 6, ground := Go.Ground.guard }], guard := some (6, true) }) rfl (fun K hK => ?_) AllReadyH.nil
      rw [if_pos (by rfl)]
      go_simp
      refine (hAt.out _ hHeld.bl).mono ?_
      rintro e w9 ⟨v1, v2, v3, rfl, hia, hb⟩
      have hia1 := Lib.hid hia
      have hMM := hHeld.below hb
      clear hb hHeld hia
      refine hK.out _ _ hMM (fun hHeld => ?_)
      clear hK K
      try simp only [Act.put, List.setIfInBounds_toArray, List.set_cons_zero, List.set_cons_succ]
      refine wpAnyH_ready (rs := [10]) (by kernel_rfl) (by simp) ?_
      refine AllReadyH.cons (o := { dst := some 96, op := Go.Op.call { callee := Go.Callee.value (Go.Operand.func 18), args := #[Go.Operand.tmp 93, Go.Operand.tmp 95], argTypes := #[28, 28] }, type := 4, pos := "law.go:50", after := #[{ on := 7, ground := Go.Ground.data }, { on := 9, ground := Go.Ground.data }, { on := 9, ground := Go.Ground.chain }, { on := 6, ground := Go.Ground.guard }], guard := some (6, true) }) rfl (fun K hK => ?_) AllReadyH.nil
      rw [if_pos (by rfl)]
      go_simp
      refine (hE.out _ _ _ _ _ _ _ hHeld.i8 hia1.out).mono ?_
      rintro e w9 ⟨rfl, hb⟩
      have hMM := hHeld.below hb
      clear hb hHeld hia1
      refine hK.out _ _ hMM (fun hHeld => ?_)
      clear hK K
      try simp only [Act.put, List.setIfInBounds_toArray, List.set_cons_zero, List.set_cons_succ]
      refine wpAnyH_take (i := 11) (oi := { dst := some 97, op := Go.Op.pick (Go.Operand.tmp 92) (Go.Operand.tmp 96) (Go.Operand.const (Go.Value.bool false)), type := 4, pos := "law.go:50", after := #[{ on := 6, ground := Go.Ground.data }, { on := 10, ground := Go.Ground.data }], guard := none }) (v := ?_) rfl (by kernel_rfl) (by kernel_rfl) (by kernel_rfl) (fun _ _ _ h => h) (Or.inl ⟨by rfl, ?_⟩) (by assumption) ?_
      rotate_left
      · intro w hSw; clear hSw; go_simp; try with_reducible rfl
      try simp only [Act.put, List.setIfInBounds_toArray, List.set_cons_zero, List.set_cons_succ]
      refine wpAnyH_take (i := 12) (oi := { dst := some 98, op := Go.Op.move (Go.Operand.tmp 97), type := 4, pos := "law.go:50", after := #[{ on := 11, ground := Go.Ground.data }, { on := 10, ground := Go.Ground.chain }], guard := none }) (v := ?_) rfl (by kernel_rfl) (by kernel_rfl) (by kernel_rfl) (fun _ _ _ h => h) (Or.inl ⟨by rfl, ?_⟩) (by assumption) ?_
      rotate_left
      · intro w hSw; clear hSw; go_simp; try with_reducible rfl
      try simp only [Act.put, List.setIfInBounds_toArray, List.set_cons_zero, List.set_cons_succ]
      refine wpAnyH_take (i := 13) (oi := { dst := some 99, op := Go.Op.move (Go.Operand.tmp 5), type := 9, pos := "law.go:50", after := #[{ on := 12, ground := Go.Ground.guard }], guard := some (12, true) }) (v := ?_) rfl (by kernel_rfl) (by kernel_rfl) (by kernel_rfl) (fun _ _ _ h => h) (Or.inl ⟨by rfl, ?_⟩) (by assumption) ?_
      rotate_left
      · intro w hSw; clear hSw; go_simp; try with_reducible rfl
      try simp only [Act.put, List.setIfInBounds_toArray, List.set_cons_zero, List.set_cons_succ]
      refine wpAnyH_take (i := 14) (oi := { dst := some 100, op := Go.Op.load 28 (Go.Operand.tmp 1), type := 28, pos := "law.go:50", after := #[{ on := 12, ground := Go.Ground.guard }], guard := some (12, true) }) (v := _) rfl (by kernel_rfl) (by kernel_rfl) (by kernel_rfl) (fun _ _ _ h => h) (Or.inl ⟨by rfl, fun w' hS => load_term w' _ _ _ _ _ _ _ _ _ _ _ _ _ rfl rfl hS.lt⟩) (by assumption) ?_
      try simp only [Act.put, List.setIfInBounds_toArray, List.set_cons_zero, List.set_cons_succ]
      refine wpAnyH_ready (rs := [15]) (by kernel_rfl) (by simp) ?_
      refine AllReadyH.cons (o := { dst := some 101, op := Go.Op.call { callee := Go.Callee.value (Go.Operand.func 22), args := #[Go.Operand.tmp 100], argTypes := #[28] }, type := 9, pos := "law.go:50", after := #[{ on := 14, ground := Go.Ground.data }, { on := 12, ground := Go.Ground.chain }, { on := 12, ground := Go.Ground.guard }], guard := some (12, true) }) rfl (fun K hK => ?_) AllReadyH.nil
      rw [if_pos (by rfl)]
      go_simp
      refine (hRt.out _ hHeld.bl).mono ?_
      rintro e w9 ⟨rfl, hb⟩
      have hMM := hHeld.below hb
      clear hb hHeld 
      refine hK.out _ _ hMM (fun hHeld => ?_)
      clear hK K
      try simp only [Act.put, List.setIfInBounds_toArray, List.set_cons_zero, List.set_cons_succ]
      refine wpAnyH_take (i := 16) (oi := { dst := some 102, op := Go.Op.binOp Go.BinOp.eql 9 (Go.Operand.tmp 99) (Go.Operand.tmp 101) 9, type := 4, pos := "law.go:50", after := #[{ on := 13, ground := Go.Ground.data }, { on := 15, ground := Go.Ground.data }, { on := 12, ground := Go.Ground.guard }], guard := some (12, true) }) (v := ?_) rfl (by kernel_rfl) (by kernel_rfl) (by kernel_rfl) (fun _ _ _ h => h) (Or.inl ⟨by rfl, ?_⟩) (by assumption) ?_
      rotate_left
      · intro w hSw; clear hSw; go_simp; try with_reducible rfl
      try simp only [Act.put, List.setIfInBounds_toArray, List.set_cons_zero, List.set_cons_succ]
      refine wpAnyH_take (i := 17) (oi := { dst := some 103, op := Go.Op.pick (Go.Operand.tmp 98) (Go.Operand.tmp 102) (Go.Operand.const (Go.Value.bool false)), type := 4, pos := "law.go:50", after := #[{ on := 12, ground := Go.Ground.data }, { on := 16, ground := Go.Ground.data }], guard := none }) (v := ?_) rfl (by kernel_rfl) (by kernel_rfl) (by kernel_rfl) (fun _ _ _ h => h) (Or.inl ⟨by rfl, ?_⟩) (by assumption) ?_
      rotate_left
      · intro w hSw; clear hSw; go_simp; try with_reducible rfl
      try simp only [Act.put, List.setIfInBounds_toArray, List.set_cons_zero, List.set_cons_succ]
      refine wpAnyH_take (i := 18) (oi := { dst := some 2, op := Go.Op.assign (Go.Operand.tmp 103), type := 4, pos := "law.go:50", after := #[{ on := 17, ground := Go.Ground.data }, { on := 15, ground := Go.Ground.chain }, { on := 0, ground := Go.Ground.phase }, { on := 1, ground := Go.Ground.phase }, { on := 2, ground := Go.Ground.phase }, { on := 3, ground := Go.Ground.phase }, { on := 4, ground := Go.Ground.phase }, { on := 5, ground := Go.Ground.phase }, { on := 6, ground := Go.Ground.phase }, { on := 7, ground := Go.Ground.phase }, { on := 8, ground := Go.Ground.phase }, { on := 9, ground := Go.Ground.phase }, { on := 10, ground := Go.Ground.phase }, { on := 11, ground := Go.Ground.phase }, { on := 12, ground := Go.Ground.phase }, { on := 13, ground := Go.Ground.phase }, { on := 14, ground := Go.Ground.phase }, { on := 15, ground := Go.Ground.phase }, { on := 16, ground := Go.Ground.phase }, { on := 17, ground := Go.Ground.phase }], guard := none }) (v := ?_) rfl (by kernel_rfl) (by kernel_rfl) (by kernel_rfl) (fun _ _ _ h => h) (Or.inl ⟨by rfl, ?_⟩) (by assumption) ?_
      rotate_left
      · intro w hSw; clear hSw; go_simp; try with_reducible rfl
      try simp only [Act.put, List.setIfInBounds_toArray, List.set_cons_zero, List.set_cons_succ]
      refine wpAnyH_done (by kernel_rfl) ?_ _
      have hF := hHeld
      clear hHeld
      go_wp2_with fail
      go_ret
      exact ⟨rfl, hF.bl⟩
theorem termAlphas_walk (t : Tm) (w : World) (vp vi vk : Value) (h : TmIn w t vp vi vk) (hB : TmBd t) (hT : Tab w) :
    Calls Tryz.prog 4 #[tmv t vp vi vk] w fun e w' => e = .returned (.bool true) ∧ Below w.heap.size w w' := by
  cases hst : TM.smt t
  · exact termAlphas_small t w vp vi vk h hT hst
  · cases hok : TM.okt t
    · exact termAlphas_wrong t w vp vi vk h hB hT hst hok
    · exact termAlphas_yes t w vp vi vk h hB hT hst hok
end Go.Proofs.YtpiekdcbjkgipaaGreatDoor
