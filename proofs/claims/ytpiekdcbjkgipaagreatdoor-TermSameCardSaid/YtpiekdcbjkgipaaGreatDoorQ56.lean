/- The law TermSame, walked: the main case. -/
import Derived.Test.YtpiekdcbjkgipaaGreatDoorQ55
import Derived.Test.YtpiekdcbjkgipaaGreatDoorQ47
namespace Go.Proofs.YtpiekdcbjkgipaaGreatDoor
open Go.ChangeShapes Go.WideShapes Go.ChangeAt Go.RowKit Go.Deep
open TM (Tl Tm)

set_option maxRecDepth 100000 in
set_option maxHeartbeats 8000000 in
theorem termSame_yes (t u : Tm) (w : World) (vp vi vk xp xi xk : Value) (h : TmIn w t vp vi vk) (hu : TmIn w u xp xi xk) (hB : TmBd t) (hBu : TmBd u) (hT : Tab w) (hst : TM.smt t = true) (hsu : TM.smt u = true) (hok : TM.okt t = true) :
    Calls Tryz.prog 5 #[tmv t vp vi vk, tmv u xp xi xk] w fun e w' => e = .returned (.bool true) ∧ Below w.heap.size w w' := by
  obtain ⟨hsd, hsz, hpl⟩ := smt_facts hst
  obtain ⟨hsdu, hszu, hplu⟩ := smt_facts hsu
  have hA := Lib.hid (fun (w' : World) (hb : Below w.heap.size w w') => awake10_of same_as w' (hT.on hb))
  have hS := Lib.hid (fun (w' : World) (hb : Below w.heap.size w w') => tsmall_any t w' vp vi vk (h.below hb))
  have hV := Lib.hid (fun (w' : World) (hb : Below w.heap.size w w') => tsmall_any u w' xp xi xk (hu.below hb))
  have hR := Lib.hid (fun (w' : World) (hb : Below w.heap.size w w') => tright_any t w' vp vi vk (h.below hb) hB hpl)
  have hP := Lib.hid (fun (w' : World) (hb : Below w.heap.size w w') => params_any t w' vp vi vk (h.below hb) hpl)
  have hO := Lib.hid (fun (w' : World) (hb : Below w.heap.size w w') => town_any t w' vp vi vk (h.below hb) hsd (by omega))
  have hOu := Lib.hid (fun (w' : World) (hb : Below w.heap.size w w') => town_any u w' xp xi xk (hu.below hb) hsdu (by omega))
  have hX := Lib.hid (fun (m : Int) (B : Nat) (w6 : World) (v1 v2 v3 : Value) (hb : Below w.heap.size w w6) (hn : NewT B w6 t v1 v2 v3) (hB : w.heap.size ≤ B) (h0 : 0 ≤ m) (h1 : m ≤ 1099511627776) (hp : ∀ p ∈ t.ps ++ TM.prs t.ks, p ≤ m) => shx_any hb hn hB (by_ := m + 1) (by omega) (by omega) (TM.sh1_of hok (by omega) hp))
  have hXb := Lib.hid (fun (m : Int) (h0 : 0 ≤ m) (h1 : m ≤ 1099511627776) (hp : ∀ p ∈ t.ps ++ TM.prs t.ks, p ≤ m) => TmBd.sh (by_ := m + 1) (by omega) (by omega) hB (TM.sh1_of hok (m := m) (by omega) hp))
  have hXs := Lib.hid (fun (m : Int) (hp : ∀ p ∈ t.ps ++ TM.prs t.ks, p ≤ m) => TM.sh_same hok hp)
  have hB' := Lib.hid hB
  have hL := Lib.hid (fun (w' : World) (v1 v2 v3 : Value) (hi : TmIn w' t v1 v2 v3) => alpha_ok hi hB hok)
  have haa := TM.alpha_alpha hok
  have haB := hB.alpha hpl
  have hasd : TM.sd1 (TM.alpha t) = true := by rw [TM.sd1_alpha]; exact hsd
  have hasz : TM.sz (TM.alpha t).ks ≤ 5000 := by
    show TM.sz (TM.nmt _ t.ks) ≤ 5000
    rw [TM.nmt_sz]; omega
  have hLa := Lib.hid (fun (w' : World) (v1 v2 v3 : Value) (hi : TmIn w' (TM.alpha t) v1 v2 v3) => alpha_ok hi haB haa.1)
  rw [haa.2] at hLa
  have hOa := Lib.hid (fun (w' : World) (v1 v2 v3 : Value) (hi : TmIn w' (TM.alpha t) v1 v2 v3) => town_any (TM.alpha t) w' v1 v2 v3 hi hasd hasz)
  have hRu := Lib.hid (fun (w' : World) (hb : Below w.heap.size w w') => tright_any u w' xp xi xk (hu.below hb) hBu hplu)
  have hAt := Lib.hid (fun (w' : World) (hb : Below w.heap.size w w') => ralpha_any t w' vp vi vk (h.below hb) hsd (by omega) hpl)
  have hAu := Lib.hid (fun (w' : World) (hb : Below w.heap.size w w') => ralpha_any u w' xp xi xk (hu.below hb) hsdu (by omega) hplu)
  obtain ⟨d, hd⟩ : ∃ d : Bool, d = true ↔ TM.alpha t = TM.alpha u := by
    by_cases h : TM.alpha t = TM.alpha u
    · exact ⟨true, by simp [h]⟩
    · exact ⟨false, by simp [h]⟩
  obtain ⟨ou, hou⟩ : ∃ b, TM.okt u = b := ⟨_, rfl⟩
  have hE := Lib.hid (fun (w' : World) (a1 a2 a3 b1 b2 b3 : Value) (hi : TmIn w' (TM.alpha t) a1 a2 a3) (hj : TmIn w' (TM.alpha u) b1 b2 b3) => (equal_any _ _ w' a1 a2 a3 b1 b2 b3 hi hj).mono (fun _ _ k => BoolIff.ret k hd))
  have hEE := Lib.hid (fun (w' : World) (a1 a2 a3 b1 b2 b3 : Value) (hi : TmIn w' (TM.alpha t) a1 a2 a3) (hj : TmIn w' (TM.alpha t) b1 b2 b3) => (equal_any _ _ w' a1 a2 a3 b1 b2 b3 hi hj).mono (fun _ _ k => BoolIff.ret k (d := true) (by simp)))
  have hSx := Lib.hid (fun (x : Tm) (hx : TM.okt x = true ∧ TM.alpha x = TM.alpha t) (hxB : TmBd x) (w' : World) (a1 a2 a3 b1 b2 b3 : Value) (hi : TmIn w' t a1 a2 a3) (hj : TmIn w' x b1 b2 b3) => (same_as t x w' a1 a2 a3 b1 b2 b3 hi hj hB hxB).mono (fun _ _ k => BoolIff.ret k (d := true) (by simp [hok, hx.1, hx.2])))
  have hSu := Lib.hid (fun (w' : World) (a1 a2 a3 b1 b2 b3 : Value) (hi : TmIn w' t a1 a2 a3) (hj : TmIn w' u b1 b2 b3) => (same_as t u w' a1 a2 a3 b1 b2 b3 hi hj hB hBu).mono (fun _ _ k => BoolIff.ret k (d := (ou && d)) (by rw [Bool.and_eq_true, hd, hou]; simp [hok])))
  rw [hst] at hS
  rw [hsu] at hV
  rw [hok] at hR
  rw [hou] at hRu
  obtain ⟨a, ha⟩ : ∃ a, TM.alpha t = a := ⟨_, rfl⟩
  obtain ⟨a', ha'⟩ : ∃ a, TM.alpha u = a := ⟨_, rfl⟩
  obtain ⟨L, hLL⟩ : ∃ L, t.ps ++ TM.prs t.ks = L := ⟨_, rfl⟩
  rw [ha] at hL hLa hOa hAt hE hEE hXs hSx
  rw [ha'] at hAu hE
  rw [hLL] at hP hX hXb hXs hpl
  obtain ⟨n, hn⟩ : ∃ n, L.length = n := ⟨_, rfl⟩
  have hn' := Lib.hid hn
  have hpl' := Lib.hid hpl
  unfold tmv at hS hV hR hP hO hOu hX hL hLa hOa hRu hAt hAu hE hEE hSx hSu
  unfold tmv
  have hL1 := (Lies.made w 28 #[.int .i64 t.k, .int .i64 t.n, .string ⟨t.s.toArray⟩, vp, .int .i64 t.d.k, .int .i64 t.d.n, .string ⟨t.d.s.toArray⟩, vi, vk]).alloc (.cells #[.int .i64 u.k, .int .i64 u.n, .string ⟨u.s.toArray⟩, xp, .int .i64 u.d.k, .int .i64 u.d.n, .string ⟨u.d.s.toArray⟩, xi, xk] 28)
  have hz1 : (w.alloc (.cells #[.int .i64 t.k, .int .i64 t.n, .string ⟨t.s.toArray⟩, vp, .int .i64 t.d.k, .int .i64 t.d.n, .string ⟨t.d.s.toArray⟩, vi, vk] 28)).heap.size = w.heap.size + 1 := by simp
  have hL2 := Lies.made (w.alloc (.cells #[.int .i64 t.k, .int .i64 t.n, .string ⟨t.s.toArray⟩, vp, .int .i64 t.d.k, .int .i64 t.d.n, .string ⟨t.d.s.toArray⟩, vi, vk] 28)) 28 #[.int .i64 u.k, .int .i64 u.n, .string ⟨u.s.toArray⟩, xp, .int .i64 u.d.k, .int .i64 u.d.n, .string ⟨u.d.s.toArray⟩, xi, xk]
  rw [hz1] at hL2
  have hb0 : Below w.heap.size w ((w.alloc (.cells #[.int .i64 t.k, .int .i64 t.n, .string ⟨t.s.toArray⟩, vp, .int .i64 t.d.k, .int .i64 t.d.n, .string ⟨t.d.s.toArray⟩, vi, vk] 28)).alloc (.cells #[.int .i64 u.k, .int .i64 u.n, .string ⟨u.s.toArray⟩, xp, .int .i64 u.d.k, .int .i64 u.d.n, .string ⟨u.d.s.toArray⟩, xi, xk] 28)) := ((Below.refl _ w).alloc (Nat.le_refl _) _).alloc (by simp) _
  obtain ⟨W2, hW2⟩ : ∃ W2, ((w.alloc (.cells #[.int .i64 t.k, .int .i64 t.n, .string ⟨t.s.toArray⟩, vp, .int .i64 t.d.k, .int .i64 t.d.n, .string ⟨t.d.s.toArray⟩, vi, vk] 28)).alloc (.cells #[.int .i64 u.k, .int .i64 u.n, .string ⟨u.s.toArray⟩, xp, .int .i64 u.d.k, .int .i64 u.d.n, .string ⟨u.d.s.toArray⟩, xi, xk] 28)) = W2 := ⟨_, rfl⟩
  rw [hW2] at hL1 hL2 hb0
  have hL1' := Lib.hid hL1
  have hL2' := Lib.hid hL2
  have hb0' := Lib.hid hb0
  clear h hu hB hBu hT hst hsu hok hz1 hsd hsz hpl hsdu hszu hplu haa haB hasd hasz hd hou ha ha' hLL hn hL1 hL2 hb0
  go_enter Tryz.func5, Tryz.ntmps5
  go_upto_block 0 with (first
    | (go_at_call 7
       with_reducible refine (hA.out _ hb0'.out).mono ?_
       rintro e w1 ⟨rfl, hb1⟩
       have hM1 := Lib.hid (hL1'.out.below hb1 hL1'.out.lt)
       have hO1 := Lib.hid (hL2'.out.below hb1 hL2'.out.lt)
       have c1 := Lib.hid (hb0'.out.trans (Below.mono hb1 hb0'.out.size))
       have z0 := hM1.out.cell 0
       have z1 := hM1.out.cell 1
       have z2 := hM1.out.cell 2
       have z3 := hM1.out.cell 3
       have z4 := hM1.out.cell 4
       have z5 := hM1.out.cell 5
       have z6 := hM1.out.cell 6
       have z7 := hM1.out.cell 7
       have z8 := hM1.out.cell 8
       simp only [List.getElem?_cons_succ, List.getElem?_cons_zero] at z0 z1 z2 z3 z4 z5 z6 z7 z8
       clear hb1)
    | (go_at_call 8
       with_reducible refine (hS.out _ c1.out).mono ?_
       rintro e w2 ⟨rfl, hb2⟩
       have hM2 := Lib.hid (hM1.out.below hb2 hM1.out.lt)
       have hO2 := Lib.hid (hO1.out.below hb2 hO1.out.lt)
       have c2 := Lib.hid (c1.out.trans (Below.mono hb2 c1.out.size))
       have y0 := hO2.out.cell 0
       have y1 := hO2.out.cell 1
       have y2 := hO2.out.cell 2
       have y3 := hO2.out.cell 3
       have y4 := hO2.out.cell 4
       have y5 := hO2.out.cell 5
       have y6 := hO2.out.cell 6
       have y7 := hO2.out.cell 7
       have y8 := hO2.out.cell 8
       simp only [List.getElem?_cons_succ, List.getElem?_cons_zero] at y0 y1 y2 y3 y4 y5 y6 y7 y8
       clear hb2 z0 z1 z2 z3 z4 z5 z6 z7 z8)
    | (go_at_call 8
       with_reducible refine (hV.out _ c2.out).mono ?_
       rintro e w3 ⟨rfl, hb3⟩
       have hM3 := Lib.hid (hM2.out.below hb3 hM2.out.lt)
       have hO3 := Lib.hid (hO2.out.below hb3 hO2.out.lt)
       have c3 := Lib.hid (c2.out.trans (Below.mono hb3 c2.out.size))
       have q0 := hM3.out.cell 0
       have q1 := hM3.out.cell 1
       have q2 := hM3.out.cell 2
       have q3 := hM3.out.cell 3
       have q4 := hM3.out.cell 4
       have q5 := hM3.out.cell 5
       have q6 := hM3.out.cell 6
       have q7 := hM3.out.cell 7
       have q8 := hM3.out.cell 8
       simp only [List.getElem?_cons_succ, List.getElem?_cons_zero] at q0 q1 q2 q3 q4 q5 q6 q7 q8
       clear hb3 y0 y1 y2 y3 y4 y5 y6 y7 y8)
    | (go_at_call 13
       with_reducible refine (hR.out _ c3.out).mono ?_
       rintro e w4 ⟨rfl, hb4⟩
       have hM4 := Lib.hid (hM3.out.below hb4 hM3.out.lt)
       have hO4 := Lib.hid (hO3.out.below hb4 hO3.out.lt)
       have c4 := Lib.hid (c3.out.trans (Below.mono hb4 c3.out.size))
       have p0 := hM4.out.cell 0
       have p1 := hM4.out.cell 1
       have p2 := hM4.out.cell 2
       have p3 := hM4.out.cell 3
       have p4 := hM4.out.cell 4
       have p5 := hM4.out.cell 5
       have p6 := hM4.out.cell 6
       have p7 := hM4.out.cell 7
       have p8 := hM4.out.cell 8
       simp only [List.getElem?_cons_succ, List.getElem?_cons_zero] at p0 p1 p2 p3 p4 p5 p6 p7 p8
       clear hb4 q0 q1 q2 q3 q4 q5 q6 q7 q8)
    | (go_at_call 23
       with_reducible refine (hP.out _ c4.out).mono ?_
       rintro e w5 ⟨vl, rfl, hvl, hb5⟩
       have hM5 := Lib.hid (hM4.out.below hb5 hM4.out.lt)
       have hO5 := Lib.hid (hO4.out.below hb5 hO4.out.lt)
       have c5 := Lib.hid (c4.out.trans (Below.mono hb5 c4.out.size))
       obtain ⟨A5, cap5, hvr⟩ := hvl.pin.read
       have hl5 := Lib.hid hvl.pin
       rw [hn'.out] at hvr
       subst hvr
       clear hvl
       clear hb5 p0 p1 p2 p3 p4 p5 p6 p7 p8))
  have hn1 : n ≤ 1000000 := by rw [← hn'.out]; exact hpl'.out
  go_cut [5, 7] from 35 to 43 (fun s5 _ wx => wx = w5 ∧ ∃ m : Int, s5 = .int .i64 m ∧ 0 ≤ m ∧ ∀ p ∈ L, p ≤ m)
  case first =>
    go_wp2_with fail
    go_loop [5, 35] (fun y i => ∃ (j : Nat) (m : Int), j ≤ n ∧ i = .int .i64 j ∧ y = .int .i64 m ∧ 0 ≤ m ∧ Hid (∀ p ∈ L.take j, p ≤ m)) (fun _ i => n - (intOf i).toNat)
    case atStart => exact ⟨0, 0, Nat.zero_le _, rfl, rfl, by omega, Lib.hid (by simp)⟩
    case round =>
      obtain ⟨j, m, hj, rfl, rfl, hm0, hm⟩ := hrel
      by_cases hlt : j < n
      · have hx : L[j]? = some (L[j]'(by rw [hn'.out]; exact hlt)) := List.getElem?_eq_getElem _
        obtain ⟨x, hxe⟩ : ∃ x, L[j]'(by rw [hn'.out]; exact hlt) = x := ⟨_, rfl⟩
        rw [hxe] at hx
        obtain ⟨b, o, hAb, hb0, p0⟩ := hl5.out.cell hx
        cases hAb
        have htk : L.take (j + 1) = L.take j ++ [x] := by rw [List.take_add_one, hx]; rfl
        have hmx := Lib.hid (show ∀ p ∈ L.take (j + 1), p ≤ max m x from fun p hp => by
          rw [htk] at hp
          rcases List.mem_append.1 hp with hp | hp
          · have := hm.out p hp; omega
          · rw [List.mem_singleton] at hp; omega)
        clear hx hxe htk hm
        go_wp2_with fail
        go_round
        case rel => exact ⟨j + 1, max m x, by omega, by go_num, rfl, by omega, hmx⟩
        case measure => simp [intOf]; omega
      · obtain rfl : j = n := by omega
        have hmL := Lib.hid (show ∀ p ∈ L, p ≤ m from fun p hp => hm.out p (by rw [← hn'.out, List.take_length]; exact hp))
        clear hm
        go_wp2_with fail
        go_meet
        case rel => exact ⟨rfl, m, rfl, hm0, hmL.out⟩
  case rest =>
    obtain ⟨hwc, m, rfl, hm0, hmL⟩ := hcut
    obtain rfl : w5 = wc := hwc.symm
    clear hwc
    by_cases hbig : 1099511627776 < m
    · go_wp2_with fail
      go_ret
      exact ⟨rfl, c5.out⟩
    · have hm1 : m ≤ 1099511627776 := by omega
      have hmm : -9223372036854775808 ≤ m + 1 ∧ m + 1 ≤ 9223372036854775807 := by omega
      have hX1 := Lib.hid (fun B w6 v1 v2 v3 hb hn hB => hX.out m B w6 v1 v2 v3 hb hn hB hm0 hm1 hmL)
      have hSx1 := Lib.hid (hSx.out (TM.sh (m + 1) t) (hXs.out m hmL) (hXb.out m hm0 hm1 hmL))
      obtain ⟨x, hx⟩ : ∃ x, TM.sh (m + 1) t = x := ⟨_, rfl⟩
      rw [hx] at hX1 hSx1
      clear hX hSx hXs hXb hx hmL hl5 hn1 hn' hpl' hB' hS hV hR hP hA
      have z0 := hM5.out.cell 0
      have z1 := hM5.out.cell 1
      have z2 := hM5.out.cell 2
      have z3 := hM5.out.cell 3
      have z4 := hM5.out.cell 4
      have z5 := hM5.out.cell 5
      have z6 := hM5.out.cell 6
      have z7 := hM5.out.cell 7
      have z8 := hM5.out.cell 8
      simp only [List.getElem?_cons_succ, List.getElem?_cons_zero] at z0 z1 z2 z3 z4 z5 z6 z7 z8
      go_upto_region 12 with (first
        | (go_at_call 10
           refine (hO.out _ c5.out).mono ?_
           rintro e w6 ⟨v1, v2, v3, rfl, hn6, hb6⟩
           have hn6' := Lib.hid hn6
           have c6 := Lib.hid (c5.out.trans (Below.mono hb6 c5.out.size))
           have hM6 := Lib.hid (hM5.out.below hb6 hM5.out.lt)
           have hO6 := Lib.hid (hO5.out.below hb6 hO5.out.lt)
           clear hn6 hb6 z0 z1 z2 z3 z4 z5 z6 z7 z8)
        | (go_at_call 24
           refine (hX1.out _ _ _ _ _ c6.out hn6'.out c5.out.size).mono ?_
           rintro e w7 ⟨rfl, hi7, c7, hs7⟩
           obtain ⟨P7, p7, rfl⟩ := hi7.p.read
           obtain ⟨I7, q7, rfl⟩ := hi7.d.read
           obtain ⟨K7, r7, rfl⟩ := hi7.k.read
           have hM7 := Lib.hid (hs7 _ _ _ hM5.out.lt hM6.out)
           have hO7 := Lib.hid (hs7 _ _ _ hO5.out.lt hO6.out)
           have c7' := Lib.hid c7
           have hi7' := Lib.hid hi7
           clear hn6' c6 hM6 hO6 c7 hs7 hi7))
      have hi7 := hi7'
      have c7 := c7'
      clear hi7' c7'
      have hlx := Lies.made w7 28 #[.int .i64 x.k, .int .i64 x.n, .string ⟨x.s.toArray⟩, .slice P7 x.ps.length p7, .int .i64 x.d.k, .int .i64 x.d.n, .string ⟨x.d.s.toArray⟩, .slice I7 x.d.is.len q7, .slice K7 x.ks.len r7]
      have hbx : Below w7.heap.size w7 (w7.alloc (.cells #[.int .i64 x.k, .int .i64 x.n, .string ⟨x.s.toArray⟩, .slice P7 x.ps.length p7, .int .i64 x.d.k, .int .i64 x.d.n, .string ⟨x.d.s.toArray⟩, .slice I7 x.d.is.len q7, .slice K7 x.ks.len r7] 28)) := (Below.refl _ w7).alloc (Nat.le_refl _) _
      obtain ⟨w8, hwx⟩ : ∃ W, w7.alloc (.cells #[.int .i64 x.k, .int .i64 x.n, .string ⟨x.s.toArray⟩, .slice P7 x.ps.length p7, .int .i64 x.d.k, .int .i64 x.d.n, .string ⟨x.d.s.toArray⟩, .slice I7 x.d.is.len q7, .slice K7 x.ks.len r7] 28) = W := ⟨_, rfl⟩
      rw [hwx] at hlx hbx ⊢
      have hM8 := Lib.hid (hM7.out.below hbx hM7.out.lt)
      have hO8 := Lib.hid (hO7.out.below hbx hO7.out.lt)
      have hi8 := Lib.hid (hi7.out.below hbx)
      have c8 := Lib.hid (c7.out.trans (Below.mono hbx c7.out.size))
      have hl8 := Lib.hid hlx
      clear hwx hlx hbx
      obtain ⟨g8, hgx⟩ : ∃ g, w7.heap.size = g := ⟨_, rfl⟩
      rw [hgx] at hl8 ⊢
      clear hgx hM7 hO7 hi7 c7
      have z0 := hM8.out.cell 0
      have z1 := hM8.out.cell 1
      have z2 := hM8.out.cell 2
      have z3 := hM8.out.cell 3
      have z4 := hM8.out.cell 4
      have z5 := hM8.out.cell 5
      have z6 := hM8.out.cell 6
      have z7 := hM8.out.cell 7
      have z8 := hM8.out.cell 8
      simp only [List.getElem?_cons_succ, List.getElem?_cons_zero] at z0 z1 z2 z3 z4 z5 z6 z7 z8
      go_upto_region 13 with (first
        | (go_at_call 10
           refine (hO.out _ c8.out).mono ?_
           rintro e w9 ⟨v4, v5, v6, rfl, hn, hb⟩
           have hv := Lib.hid hn.tmin
           clear hn
           have hM9 := Lib.hid (hM8.out.below hb hM8.out.lt)
           have hO9 := Lib.hid (hO8.out.below hb hO8.out.lt)
           have hi9 := Lib.hid (hi8.out.below hb)
           have hl9 := Lib.hid (hl8.out.below hb hl8.out.lt)
           have c9 := Lib.hid (c8.out.trans (Below.mono hb c8.out.size))
           clear hb hM8 hO8 hi8 hl8 c8 z0 z1 z2 z3 z4 z5 z6 z7 z8)
        | (go_at_call 15
           refine (hL.out _ _ _ _ hv.out).mono ?_
           rintro e w10 ⟨v7, v8, v9, rfl, hi9, hb⟩
           obtain ⟨P9, p9, rfl⟩ := hi9.p.read
           obtain ⟨I9, q9, rfl⟩ := hi9.d.read
           obtain ⟨K9, r9, rfl⟩ := hi9.k.read
           have hj10 := Lib.hid hi9
           clear hi9
           have hM10 := Lib.hid (hM9.out.below hb hM9.out.lt)
           have hO10 := Lib.hid (hO9.out.below hb hO9.out.lt)
           have hi10 := Lib.hid (hi9.out.below hb)
           have hl10 := Lib.hid (hl9.out.below hb hl9.out.lt)
           have c10 := Lib.hid (c9.out.trans (Below.mono hb c9.out.size))
           clear hb hM9 hO9 hi9 hl9 c9 hv))
      have hlx := Lies.made w10 28 #[.int .i64 a.k, .int .i64 a.n, .string ⟨a.s.toArray⟩, .slice P9 a.ps.length p9, .int .i64 a.d.k, .int .i64 a.d.n, .string ⟨a.d.s.toArray⟩, .slice I9 a.d.is.len q9, .slice K9 a.ks.len r9]
      have hbx : Below w10.heap.size w10 (w10.alloc (.cells #[.int .i64 a.k, .int .i64 a.n, .string ⟨a.s.toArray⟩, .slice P9 a.ps.length p9, .int .i64 a.d.k, .int .i64 a.d.n, .string ⟨a.d.s.toArray⟩, .slice I9 a.d.is.len q9, .slice K9 a.ks.len r9] 28)) := (Below.refl _ w10).alloc (Nat.le_refl _) _
      obtain ⟨w11, hwx⟩ : ∃ W, w10.alloc (.cells #[.int .i64 a.k, .int .i64 a.n, .string ⟨a.s.toArray⟩, .slice P9 a.ps.length p9, .int .i64 a.d.k, .int .i64 a.d.n, .string ⟨a.d.s.toArray⟩, .slice I9 a.d.is.len q9, .slice K9 a.ks.len r9] 28) = W := ⟨_, rfl⟩
      rw [hwx] at hlx hbx ⊢
      have hM11 := Lib.hid (hM10.out.below hbx hM10.out.lt)
      have hO11 := Lib.hid (hO10.out.below hbx hO10.out.lt)
      have hi11 := Lib.hid (hi10.out.below hbx)
      have hl11 := Lib.hid (hl10.out.below hbx hl10.out.lt)
      have hj11 := Lib.hid (hj10.out.below hbx)
      have c11 := Lib.hid (c10.out.trans (Below.mono hbx c10.out.size))
      have hk11 := Lib.hid hlx
      clear hwx hlx hbx
      obtain ⟨g9, hgx⟩ : ∃ g, w10.heap.size = g := ⟨_, rfl⟩
      rw [hgx] at hk11 ⊢
      clear hgx hM10 hO10 hi10 hl10 hj10 c10
      have z0 := hk11.out.cell 0
      have z1 := hk11.out.cell 1
      have z2 := hk11.out.cell 2
      have z3 := hk11.out.cell 3
      have z4 := hk11.out.cell 4
      have z5 := hk11.out.cell 5
      have z6 := hk11.out.cell 6
      have z7 := hk11.out.cell 7
      have z8 := hk11.out.cell 8
      simp only [List.getElem?_cons_succ, List.getElem?_cons_zero] at z0 z1 z2 z3 z4 z5 z6 z7 z8
      go_upto_region 14 with (first
        | (go_at_call 10
           refine (hOa.out _ _ _ _ hj11.out).mono ?_
           rintro e w12 ⟨v4, v5, v6, rfl, hn, hb⟩
           have hv := Lib.hid hn.tmin
           clear hn
           have hM12 := Lib.hid (hM11.out.below hb hM11.out.lt)
           have hO12 := Lib.hid (hO11.out.below hb hO11.out.lt)
           have hi12 := Lib.hid (hi11.out.below hb)
           have hl12 := Lib.hid (hl11.out.below hb hl11.out.lt)
           have hj12 := Lib.hid (hj11.out.below hb)
           have hk12 := Lib.hid (hk11.out.below hb hk11.out.lt)
           have c12 := Lib.hid (c11.out.trans (Below.mono hb c11.out.size))
           clear hb hM11 hO11 hi11 hl11 hj11 hk11 c11 z0 z1 z2 z3 z4 z5 z6 z7 z8)
        | (go_at_call 15
           refine (hLa.out _ _ _ _ hv.out).mono ?_
           rintro e w13 ⟨v7, v8, v9, rfl, hi9, hb⟩
           obtain ⟨Pb, pb, rfl⟩ := hi9.p.read
           obtain ⟨Ib, qb, rfl⟩ := hi9.d.read
           obtain ⟨Kb, rb, rfl⟩ := hi9.k.read
           have hm13 := Lib.hid hi9
           clear hi9
           have hM13 := Lib.hid (hM12.out.below hb hM12.out.lt)
           have hO13 := Lib.hid (hO12.out.below hb hO12.out.lt)
           have hi13 := Lib.hid (hi12.out.below hb)
           have hl13 := Lib.hid (hl12.out.below hb hl12.out.lt)
           have hj13 := Lib.hid (hj12.out.below hb)
           have hk13 := Lib.hid (hk12.out.below hb hk12.out.lt)
           have c13 := Lib.hid (c12.out.trans (Below.mono hb c12.out.size))
           clear hb hM12 hO12 hi12 hl12 hj12 hk12 c12 hv))
      have hlx := Lies.made w13 28 #[.int .i64 a.k, .int .i64 a.n, .string ⟨a.s.toArray⟩, .slice Pb a.ps.length pb, .int .i64 a.d.k, .int .i64 a.d.n, .string ⟨a.d.s.toArray⟩, .slice Ib a.d.is.len qb, .slice Kb a.ks.len rb]
      have hbx : Below w13.heap.size w13 (w13.alloc (.cells #[.int .i64 a.k, .int .i64 a.n, .string ⟨a.s.toArray⟩, .slice Pb a.ps.length pb, .int .i64 a.d.k, .int .i64 a.d.n, .string ⟨a.d.s.toArray⟩, .slice Ib a.d.is.len qb, .slice Kb a.ks.len rb] 28)) := (Below.refl _ w13).alloc (Nat.le_refl _) _
      obtain ⟨w14, hwx⟩ : ∃ W, w13.alloc (.cells #[.int .i64 a.k, .int .i64 a.n, .string ⟨a.s.toArray⟩, .slice Pb a.ps.length pb, .int .i64 a.d.k, .int .i64 a.d.n, .string ⟨a.d.s.toArray⟩, .slice Ib a.d.is.len qb, .slice Kb a.ks.len rb] 28) = W := ⟨_, rfl⟩
      rw [hwx] at hlx hbx ⊢
      have hM14 := Lib.hid (hM13.out.below hbx hM13.out.lt)
      have hO14 := Lib.hid (hO13.out.below hbx hO13.out.lt)
      have hi14 := Lib.hid (hi13.out.below hbx)
      have hl14 := Lib.hid (hl13.out.below hbx hl13.out.lt)
      have hj14 := Lib.hid (hj13.out.below hbx)
      have hk14 := Lib.hid (hk13.out.below hbx hk13.out.lt)
      have hm14 := Lib.hid (hm13.out.below hbx)
      have c14 := Lib.hid (c13.out.trans (Below.mono hbx c13.out.size))
      have hn14 := Lib.hid hlx
      clear hwx hlx hbx
      obtain ⟨gb, hgx⟩ : ∃ g, w13.heap.size = g := ⟨_, rfl⟩
      rw [hgx] at hn14 ⊢
      clear hgx hM13 hO13 hi13 hl13 hj13 hk13 hm13 c13
      have hF : Fv w t u x a vp vi vk xp xi xk (.slice P7 x.ps.length p7) (.slice I7 x.d.is.len q7) (.slice K7 x.ks.len r7) (.slice P9 a.ps.length p9) (.slice I9 a.d.is.len q9) (.slice K9 a.ks.len r9) (.slice Pb a.ps.length pb) (.slice Ib a.d.is.len qb) (.slice Kb a.ks.len rb) g8 g9 gb w14 := ⟨c14.out, hM14.out, hO14.out, hl14.out, hk14.out, hn14.out, hi14.out, hj14.out, hm14.out⟩
      clear hM14 hO14 hi14 hl14 hj14 hk14 hm14 hn14 c14
      clear hL hLa hOa hX1
      cases ou
      · simp only [Bool.false_and] at hSu
        refine wp_region_held_drew (S := (fun w' => Fv w t u x a vp vi vk xp xi xk (.slice P7 x.ps.length p7) (.slice I7 x.d.is.len q7) (.slice K7 x.ks.len r7) (.slice P9 a.ps.length p9) (.slice I9 a.d.is.len q9) (.slice K9 a.ks.len r9) (.slice Pb a.ps.length pb) (.slice Ib a.d.is.len qb) (.slice Kb a.ks.len rb) g8 g9 gb w')) rfl hF.drew (fun hHeld => ?_)
        clear hF
        refine wpAnyH_take (i := 0) (oi := { dst := some 62, op := Go.Op.load 28 (Go.Operand.tmp 3), type := 28, pos := "law.go:82", after := #[], guard := none }) (v := _) rfl (by kernel_rfl) (by kernel_rfl) (by kernel_rfl) (fun _ _ _ h => h) (Or.inl ⟨by rfl, fun w' hS => load_term w' _ _ _ _ _ _ _ _ _ _ _ _ _ rfl rfl hS.lu⟩) (by assumption) ?_
        try simp only [Act.put, List.setIfInBounds_toArray, List.set_cons_zero, List.set_cons_succ]
        refine wpAnyH_ready (rs := [1]) (by kernel_rfl) (by simp) ?_
        refine AllReadyH.cons (o := { dst := some 63, op := Go.Op.call { callee := Go.Callee.value (Go.Operand.func 13), args := #[Go.Operand.tmp 62], argTypes := #[28] }, type := 4, pos := "law.go:82", after := #[{ on := 0, ground := Go.Ground.data }], guard := none }) rfl (fun K hK => ?_) AllReadyH.nil
        rw [if_pos (by rfl)]
        go_simp
        refine (hRu.out _ hHeld.bl).mono ?_
        rintro e w9 ⟨rfl, hb⟩
        have hMM := hHeld.below hb
        clear hb hHeld 
        refine hK.out _ _ hMM (fun hHeld => ?_)
        clear hK K
        try simp only [Act.put, List.setIfInBounds_toArray, List.set_cons_zero, List.set_cons_succ]
        refine wpAnyH_take (i := 2) (oi := { dst := some 64, op := Go.Op.move (Go.Operand.tmp 63), type := 4, pos := "law.go:82", after := #[{ on := 1, ground := Go.Ground.data }, { on := 1, ground := Go.Ground.chain }], guard := none }) (v := ?_) rfl (by kernel_rfl) (by kernel_rfl) (by kernel_rfl) (fun _ _ _ h => h) (Or.inl ⟨by rfl, ?_⟩) (by assumption) ?_
        rotate_left
        · intro w hSw; clear hSw; go_simp; try with_reducible rfl
        try simp only [Act.put, List.setIfInBounds_toArray, List.set_cons_zero, List.set_cons_succ]
        refine wpAnyH_take (i := 3) (oi := { dst := some 65, op := Go.Op.load 28 (Go.Operand.tmp 2), type := 28, pos := "law.go:82", after := #[{ on := 2, ground := Go.Ground.guard }], guard := some (2, true) }) (v := undef) rfl (by kernel_rfl) (by kernel_rfl) (by kernel_rfl) (fun _ _ _ h => h) (Or.inr ⟨by rfl, rfl⟩) (by assumption) ?_
        try simp only [Act.put, List.setIfInBounds_toArray, List.set_cons_zero, List.set_cons_succ]
        refine wpAnyH_take (i := 4) (oi := { dst := some 66, op := Go.Op.call { callee := Go.Callee.value (Go.Operand.func 21), args := #[Go.Operand.tmp 65], argTypes := #[28] }, type := 28, pos := "law.go:82", after := #[{ on := 3, ground := Go.Ground.data }, { on := 2, ground := Go.Ground.chain }, { on := 2, ground := Go.Ground.guard }], guard := some (2, true) }) (v := undef) rfl (by kernel_rfl) (by kernel_rfl) (by kernel_rfl) (fun _ _ _ h => h) (Or.inr ⟨by rfl, rfl⟩) (by assumption) ?_
        try simp only [Act.put, List.setIfInBounds_toArray, List.set_cons_zero, List.set_cons_succ]
        refine wpAnyH_take (i := 5) (oi := { dst := some 67, op := Go.Op.load 28 (Go.Operand.tmp 3), type := 28, pos := "law.go:82", after := #[{ on := 2, ground := Go.Ground.guard }], guard := some (2, true) }) (v := undef) rfl (by kernel_rfl) (by kernel_rfl) (by kernel_rfl) (fun _ _ _ h => h) (Or.inr ⟨by rfl, rfl⟩) (by assumption) ?_
        try simp only [Act.put, List.setIfInBounds_toArray, List.set_cons_zero, List.set_cons_succ]
        refine wpAnyH_take (i := 6) (oi := { dst := some 68, op := Go.Op.call { callee := Go.Callee.value (Go.Operand.func 21), args := #[Go.Operand.tmp 67], argTypes := #[28] }, type := 28, pos := "law.go:82", after := #[{ on := 5, ground := Go.Ground.data }, { on := 4, ground := Go.Ground.chain }, { on := 2, ground := Go.Ground.guard }], guard := some (2, true) }) (v := undef) rfl (by kernel_rfl) (by kernel_rfl) (by kernel_rfl) (fun _ _ _ h => h) (Or.inr ⟨by rfl, rfl⟩) (by assumption) ?_
        try simp only [Act.put, List.setIfInBounds_toArray, List.set_cons_zero, List.set_cons_succ]
        refine wpAnyH_take (i := 7) (oi := { dst := some 69, op := Go.Op.call { callee := Go.Callee.value (Go.Operand.func 18), args := #[Go.Operand.tmp 66, Go.Operand.tmp 68], argTypes := #[28, 28] }, type := 4, pos := "law.go:82", after := #[{ on := 4, ground := Go.Ground.data }, { on := 6, ground := Go.Ground.data }, { on := 6, ground := Go.Ground.chain }, { on := 2, ground := Go.Ground.guard }], guard := some (2, true) }) (v := undef) rfl (by kernel_rfl) (by kernel_rfl) (by kernel_rfl) (fun _ _ _ h => h) (Or.inr ⟨by rfl, rfl⟩) (by assumption) ?_
        try simp only [Act.put, List.setIfInBounds_toArray, List.set_cons_zero, List.set_cons_succ]
        refine wpAnyH_take (i := 8) (oi := { dst := some 70, op := Go.Op.pick (Go.Operand.tmp 64) (Go.Operand.tmp 69) (Go.Operand.const (Go.Value.bool false)), type := 4, pos := "law.go:82", after := #[{ on := 2, ground := Go.Ground.data }, { on := 7, ground := Go.Ground.data }], guard := none }) (v := ?_) rfl (by kernel_rfl) (by kernel_rfl) (by kernel_rfl) (fun _ _ _ h => h) (Or.inl ⟨by rfl, ?_⟩) (by assumption) ?_
        rotate_left
        · intro w hSw; clear hSw; go_simp; try with_reducible rfl
        try simp only [Act.put, List.setIfInBounds_toArray, List.set_cons_zero, List.set_cons_succ]
        refine wpAnyH_take (i := 9) (oi := { dst := some 13, op := Go.Op.assign (Go.Operand.tmp 70), type := 4, pos := "law.go:82", after := #[{ on := 8, ground := Go.Ground.data }, { on := 7, ground := Go.Ground.chain }, { on := 0, ground := Go.Ground.phase }, { on := 1, ground := Go.Ground.phase }, { on := 2, ground := Go.Ground.phase }, { on := 3, ground := Go.Ground.phase }, { on := 4, ground := Go.Ground.phase }, { on := 5, ground := Go.Ground.phase }, { on := 6, ground := Go.Ground.phase }, { on := 7, ground := Go.Ground.phase }, { on := 8, ground := Go.Ground.phase }], guard := none }) (v := ?_) rfl (by kernel_rfl) (by kernel_rfl) (by kernel_rfl) (fun _ _ _ h => h) (Or.inl ⟨by rfl, ?_⟩) (by assumption) ?_
        rotate_left
        · intro w hSw; clear hSw; go_simp; try with_reducible rfl
        try simp only [Act.put, List.setIfInBounds_toArray, List.set_cons_zero, List.set_cons_succ]
        refine wpAnyH_done (by kernel_rfl) ?_ _
        have hF := hHeld
        clear hHeld
        go_wp2_with fail
        refine wp_region_held_drew (S := (fun w' => Fv w t u x a vp vi vk xp xi xk (.slice P7 x.ps.length p7) (.slice I7 x.d.is.len q7) (.slice K7 x.ks.len r7) (.slice P9 a.ps.length p9) (.slice I9 a.d.is.len q9) (.slice K9 a.ks.len r9) (.slice Pb a.ps.length pb) (.slice Ib a.d.is.len qb) (.slice Kb a.ks.len rb) g8 g9 gb w')) rfl hF.drew (fun hHeld => ?_)
        clear hF
        refine wpAnyH_take (i := 0) (oi := { dst := some 71, op := Go.Op.move (Go.Operand.tmp 12), type := 32, pos := "law.go:83", after := #[], guard := none }) (v := ?_) rfl (by kernel_rfl) (by kernel_rfl) (by kernel_rfl) (fun _ _ _ h => h) (Or.inl ⟨by rfl, ?_⟩) (by assumption) ?_
        rotate_left
        · intro w hSw; clear hSw; go_simp; try with_reducible rfl
        try simp only [Act.put, List.setIfInBounds_toArray, List.set_cons_zero, List.set_cons_succ]
        refine wpAnyH_take (i := 1) (oi := { dst := some 72, op := Go.Op.binOp Go.BinOp.eql 32 (Go.Operand.tmp 71) (Go.Operand.const Go.Value.nilIface) 32, type := 4, pos := "law.go:83", after := #[{ on := 0, ground := Go.Ground.data }], guard := none }) (v := ?_) rfl (by kernel_rfl) (by kernel_rfl) (by kernel_rfl) (fun _ _ _ h => h) (Or.inl ⟨by rfl, ?_⟩) (by assumption) ?_
        rotate_left
        · intro w hSw; clear hSw; go_simp; try with_reducible rfl
        try simp only [Act.put, List.setIfInBounds_toArray, List.set_cons_zero, List.set_cons_succ]
        refine wpAnyH_take (i := 2) (oi := { dst := some 73, op := Go.Op.move (Go.Operand.tmp 72), type := 4, pos := "law.go:83", after := #[{ on := 1, ground := Go.Ground.data }], guard := none }) (v := ?_) rfl (by kernel_rfl) (by kernel_rfl) (by kernel_rfl) (fun _ _ _ h => h) (Or.inl ⟨by rfl, ?_⟩) (by assumption) ?_
        rotate_left
        · intro w hSw; clear hSw; go_simp; try with_reducible rfl
        try simp only [Act.put, List.setIfInBounds_toArray, List.set_cons_zero, List.set_cons_succ]
        refine wpAnyH_take (i := 3) (oi := { dst := some 74, op := Go.Op.load 28 (Go.Operand.tmp 9), type := 28, pos := "law.go:83", after := #[{ on := 2, ground := Go.Ground.guard }], guard := some (2, true) }) (v := _) rfl (by kernel_rfl) (by kernel_rfl) (by kernel_rfl) (fun _ _ _ h => h) (Or.inl ⟨by rfl, fun w' hS => load_term w' _ _ _ _ _ _ _ _ _ _ _ _ _ rfl rfl hS.l9⟩) (by assumption) ?_
        try simp only [Act.put, List.setIfInBounds_toArray, List.set_cons_zero, List.set_cons_succ]
        refine wpAnyH_take (i := 4) (oi := { dst := some 75, op := Go.Op.load 28 (Go.Operand.tmp 11), type := 28, pos := "law.go:83", after := #[{ on := 2, ground := Go.Ground.guard }], guard := some (2, true) }) (v := _) rfl (by kernel_rfl) (by kernel_rfl) (by kernel_rfl) (fun _ _ _ h => h) (Or.inl ⟨by rfl, fun w' hS => load_term w' _ _ _ _ _ _ _ _ _ _ _ _ _ rfl rfl hS.lb⟩) (by assumption) ?_
        try simp only [Act.put, List.setIfInBounds_toArray, List.set_cons_zero, List.set_cons_succ]
        refine wpAnyH_ready (rs := [5]) (by kernel_rfl) (by simp) ?_
        refine AllReadyH.cons (o := { dst := some 76, op := Go.Op.call { callee := Go.Callee.value (Go.Operand.func 18), args := #[Go.Operand.tmp 74, Go.Operand.tmp 75], argTypes := #[28, 28] }, type := 4, pos := "law.go:83", after := #[{ on := 3, ground := Go.Ground.data }, { on := 4, ground := Go.Ground.data }, { on := 2, ground := Go.Ground.chain }, { on := 2, ground := Go.Ground.guard }], guard := some (2, true) }) rfl (fun K hK => ?_) AllReadyH.nil
        rw [if_pos (by rfl)]
        go_simp
        refine (hEE.out _ _ _ _ _ _ _ hHeld.i9 hHeld.ib).mono ?_
        rintro e w9 ⟨rfl, hb⟩
        have hMM := hHeld.below hb
        clear hb hHeld 
        refine hK.out _ _ hMM (fun hHeld => ?_)
        clear hK K
        try simp only [Act.put, List.setIfInBounds_toArray, List.set_cons_zero, List.set_cons_succ]
        refine wpAnyH_take (i := 6) (oi := { dst := some 77, op := Go.Op.pick (Go.Operand.tmp 73) (Go.Operand.tmp 76) (Go.Operand.const (Go.Value.bool false)), type := 4, pos := "law.go:83", after := #[{ on := 2, ground := Go.Ground.data }, { on := 5, ground := Go.Ground.data }], guard := none }) (v := ?_) rfl (by kernel_rfl) (by kernel_rfl) (by kernel_rfl) (fun _ _ _ h => h) (Or.inl ⟨by rfl, ?_⟩) (by assumption) ?_
        rotate_left
        · intro w hSw; clear hSw; go_simp; try with_reducible rfl
        try simp only [Act.put, List.setIfInBounds_toArray, List.set_cons_zero, List.set_cons_succ]
        refine wpAnyH_take (i := 7) (oi := { dst := some 78, op := Go.Op.move (Go.Operand.tmp 77), type := 4, pos := "law.go:83", after := #[{ on := 6, ground := Go.Ground.data }, { on := 5, ground := Go.Ground.chain }], guard := none }) (v := ?_) rfl (by kernel_rfl) (by kernel_rfl) (by kernel_rfl) (fun _ _ _ h => h) (Or.inl ⟨by rfl, ?_⟩) (by assumption) ?_
        rotate_left
        · intro w hSw; clear hSw; go_simp; try with_reducible rfl
        try simp only [Act.put, List.setIfInBounds_toArray, List.set_cons_zero, List.set_cons_succ]
        refine wpAnyH_take (i := 8) (oi := { dst := some 79, op := Go.Op.load 28 (Go.Operand.tmp 2), type := 28, pos := "law.go:83", after := #[{ on := 7, ground := Go.Ground.guard }], guard := some (7, true) }) (v := _) rfl (by kernel_rfl) (by kernel_rfl) (by kernel_rfl) (fun _ _ _ h => h) (Or.inl ⟨by rfl, fun w' hS => load_term w' _ _ _ _ _ _ _ _ _ _ _ _ _ rfl rfl hS.lt⟩) (by assumption) ?_
        try simp only [Act.put, List.setIfInBounds_toArray, List.set_cons_zero, List.set_cons_succ]
        refine wpAnyH_take (i := 10) (oi := { dst := some 81, op := Go.Op.load 28 (Go.Operand.tmp 8), type := 28, pos := "law.go:83", after := #[{ on := 7, ground := Go.Ground.guard }], guard := some (7, true) }) (v := _) rfl (by kernel_rfl) (by kernel_rfl) (by kernel_rfl) (fun _ _ _ h => h) (Or.inl ⟨by rfl, fun w' hS => load_term w' _ _ _ _ _ _ _ _ _ _ _ _ _ rfl rfl hS.l8⟩) (by assumption) ?_
        try simp only [Act.put, List.setIfInBounds_toArray, List.set_cons_zero, List.set_cons_succ]
        refine wpAnyH_ready (rs := [9]) (by kernel_rfl) (by simp) ?_
        refine AllReadyH.cons (o := { dst := some 80, op := Go.Op.call { callee := Go.Callee.value (Go.Operand.func 10), args := #[Go.Operand.tmp 79], argTypes := #[28] }, type := 28, pos := "law.go:83", after := #[{ on := 8, ground := Go.Ground.data }, { on := 7, ground := Go.Ground.chain }, { on := 7, ground := Go.Ground.guard }], guard := some (7, true) }) rfl (fun K hK => ?_) AllReadyH.nil
        rw [if_pos (by rfl)]
        go_simp
        refine (hO.out _ hHeld.bl).mono ?_
        rintro e w9 ⟨v1, v2, v3, rfl, hnn, hb⟩
        have hq1 := Lib.hid hnn.tmin
        have hMM := hHeld.below hb
        clear hb hHeld hnn 
        refine hK.out _ _ hMM (fun hHeld => ?_)
        clear hK K
        try simp only [Act.put, List.setIfInBounds_toArray, List.set_cons_zero, List.set_cons_succ]
        refine wpAnyH_ready (rs := [11]) (by kernel_rfl) (by simp) ?_
        refine AllReadyH.cons (o := { dst := some 82, op := Go.Op.call { callee := Go.Callee.value (Go.Operand.func 19), args := #[Go.Operand.tmp 80, Go.Operand.tmp 81], argTypes := #[28, 28] }, type := 4, pos := "law.go:83", after := #[{ on := 9, ground := Go.Ground.data }, { on := 10, ground := Go.Ground.data }, { on := 9, ground := Go.Ground.chain }, { on := 7, ground := Go.Ground.guard }], guard := some (7, true) }) rfl (fun K hK => ?_) AllReadyH.nil
        rw [if_pos (by rfl)]
        go_simp
        refine (hSx1.out _ _ _ _ _ _ _ hq1.out hHeld.i8).mono ?_
        rintro e w9 ⟨rfl, hb⟩
        have hMM := hHeld.below hb
        clear hb hHeld hq1
        refine hK.out _ _ hMM (fun hHeld => ?_)
        clear hK K
        try simp only [Act.put, List.setIfInBounds_toArray, List.set_cons_zero, List.set_cons_succ]
        refine wpAnyH_take (i := 12) (oi := { dst := some 83, op := Go.Op.pick (Go.Operand.tmp 78) (Go.Operand.tmp 82) (Go.Operand.const (Go.Value.bool false)), type := 4, pos := "law.go:83", after := #[{ on := 7, ground := Go.Ground.data }, { on := 11, ground := Go.Ground.data }], guard := none }) (v := ?_) rfl (by kernel_rfl) (by kernel_rfl) (by kernel_rfl) (fun _ _ _ h => h) (Or.inl ⟨by rfl, ?_⟩) (by assumption) ?_
        rotate_left
        · intro w hSw; clear hSw; go_simp; try with_reducible rfl
        try simp only [Act.put, List.setIfInBounds_toArray, List.set_cons_zero, List.set_cons_succ]
        refine wpAnyH_take (i := 13) (oi := { dst := some 84, op := Go.Op.move (Go.Operand.tmp 83), type := 4, pos := "law.go:83", after := #[{ on := 12, ground := Go.Ground.data }, { on := 11, ground := Go.Ground.chain }], guard := none }) (v := ?_) rfl (by kernel_rfl) (by kernel_rfl) (by kernel_rfl) (fun _ _ _ h => h) (Or.inl ⟨by rfl, ?_⟩) (by assumption) ?_
        rotate_left
        · intro w hSw; clear hSw; go_simp; try with_reducible rfl
        try simp only [Act.put, List.setIfInBounds_toArray, List.set_cons_zero, List.set_cons_succ]
        refine wpAnyH_take (i := 14) (oi := { dst := some 85, op := Go.Op.load 28 (Go.Operand.tmp 2), type := 28, pos := "law.go:83", after := #[{ on := 13, ground := Go.Ground.guard }], guard := some (13, true) }) (v := _) rfl (by kernel_rfl) (by kernel_rfl) (by kernel_rfl) (fun _ _ _ h => h) (Or.inl ⟨by rfl, fun w' hS => load_term w' _ _ _ _ _ _ _ _ _ _ _ _ _ rfl rfl hS.lt⟩) (by assumption) ?_
        try simp only [Act.put, List.setIfInBounds_toArray, List.set_cons_zero, List.set_cons_succ]
        refine wpAnyH_take (i := 16) (oi := { dst := some 87, op := Go.Op.load 28 (Go.Operand.tmp 3), type := 28, pos := "law.go:83", after := #[{ on := 13, ground := Go.Ground.guard }], guard := some (13, true) }) (v := _) rfl (by kernel_rfl) (by kernel_rfl) (by kernel_rfl) (fun _ _ _ h => h) (Or.inl ⟨by rfl, fun w' hS => load_term w' _ _ _ _ _ _ _ _ _ _ _ _ _ rfl rfl hS.lu⟩) (by assumption) ?_
        try simp only [Act.put, List.setIfInBounds_toArray, List.set_cons_zero, List.set_cons_succ]
        refine wpAnyH_take (i := 19) (oi := { dst := some 90, op := Go.Op.move (Go.Operand.tmp 13), type := 4, pos := "law.go:83", after := #[{ on := 13, ground := Go.Ground.guard }], guard := some (13, true) }) (v := ?_) rfl (by kernel_rfl) (by kernel_rfl) (by kernel_rfl) (fun _ _ _ h => h) (Or.inl ⟨by rfl, ?_⟩) (by assumption) ?_
        rotate_left
        · intro w hSw; clear hSw; go_simp; try with_reducible rfl
        try simp only [Act.put, List.setIfInBounds_toArray, List.set_cons_zero, List.set_cons_succ]
        refine wpAnyH_ready (rs := [15]) (by kernel_rfl) (by simp) ?_
        refine AllReadyH.cons (o := { dst := some 86, op := Go.Op.call { callee := Go.Callee.value (Go.Operand.func 10), args := #[Go.Operand.tmp 85], argTypes := #[28] }, type := 28, pos := "law.go:83", after := #[{ on := 14, ground := Go.Ground.data }, { on := 13, ground := Go.Ground.chain }, { on := 13, ground := Go.Ground.guard }], guard := some (13, true) }) rfl (fun K hK => ?_) AllReadyH.nil
        rw [if_pos (by rfl)]
        go_simp
        refine (hO.out _ hHeld.bl).mono ?_
        rintro e w9 ⟨v1, v2, v3, rfl, hnn, hb⟩
        have hq2 := Lib.hid hnn.tmin
        have hMM := hHeld.below hb
        clear hb hHeld hnn 
        refine hK.out _ _ hMM (fun hHeld => ?_)
        clear hK K
        try simp only [Act.put, List.setIfInBounds_toArray, List.set_cons_zero, List.set_cons_succ]
        refine wpAnyH_ready (rs := [17]) (by kernel_rfl) (by simp) ?_
        refine AllReadyH.cons (o := { dst := some 88, op := Go.Op.call { callee := Go.Callee.value (Go.Operand.func 10), args := #[Go.Operand.tmp 87], argTypes := #[28] }, type := 28, pos := "law.go:83", after := #[{ on := 16, ground := Go.Ground.data }, { on := 15, ground := Go.Ground.chain }, { on := 13, ground := Go.Ground.guard }], guard := some (13, true) }) rfl (fun K hK => ?_) AllReadyH.nil
        rw [if_pos (by rfl)]
        go_simp
        refine (hOu.out _ hHeld.bl).mono ?_
        rintro e w9 ⟨v1, v2, v3, rfl, hnn, hb⟩
        have hq3 := Lib.hid hnn.tmin
        have hq4 := Lib.hid (hq2.out.below hb)
        have hMM := hHeld.below hb
        clear hb hHeld hnn hq2
        refine hK.out _ _ hMM (fun hHeld => ?_)
        clear hK K
        try simp only [Act.put, List.setIfInBounds_toArray, List.set_cons_zero, List.set_cons_succ]
        refine wpAnyH_ready (rs := [18]) (by kernel_rfl) (by simp) ?_
        refine AllReadyH.cons (o := { dst := some 89, op := Go.Op.call { callee := Go.Callee.value (Go.Operand.func 19), args := #[Go.Operand.tmp 86, Go.Operand.tmp 88], argTypes := #[28, 28] }, type := 4, pos := "law.go:83", after := #[{ on := 15, ground := Go.Ground.data }, { on := 17, ground := Go.Ground.data }, { on := 17, ground := Go.Ground.chain }, { on := 13, ground := Go.Ground.guard }], guard := some (13, true) }) rfl (fun K hK => ?_) AllReadyH.nil
        rw [if_pos (by rfl)]
        go_simp
        refine (hSu.out _ _ _ _ _ _ _ hq4.out hq3.out).mono ?_
        rintro e w9 ⟨rfl, hb⟩
        have hMM := hHeld.below hb
        clear hb hHeld hq3 hq4
        refine hK.out _ _ hMM (fun hHeld => ?_)
        clear hK K
        try simp only [Act.put, List.setIfInBounds_toArray, List.set_cons_zero, List.set_cons_succ]
        refine wpAnyH_take (i := 20) (oi := { dst := some 91, op := Go.Op.binOp Go.BinOp.eql 4 (Go.Operand.tmp 89) (Go.Operand.tmp 90) 4, type := 4, pos := "law.go:83", after := #[{ on := 18, ground := Go.Ground.data }, { on := 19, ground := Go.Ground.data }, { on := 13, ground := Go.Ground.guard }], guard := some (13, true) }) (v := ?_) rfl (by kernel_rfl) (by kernel_rfl) (by kernel_rfl) (fun _ _ _ h => h) (Or.inl ⟨by rfl, ?_⟩) (by assumption) ?_
        rotate_left
        · intro w hSw; clear hSw; go_simp; try with_reducible rfl
        try simp only [Act.put, List.setIfInBounds_toArray, List.set_cons_zero, List.set_cons_succ]
        refine wpAnyH_take (i := 21) (oi := { dst := some 92, op := Go.Op.pick (Go.Operand.tmp 84) (Go.Operand.tmp 91) (Go.Operand.const (Go.Value.bool false)), type := 4, pos := "law.go:83", after := #[{ on := 13, ground := Go.Ground.data }, { on := 20, ground := Go.Ground.data }], guard := none }) (v := ?_) rfl (by kernel_rfl) (by kernel_rfl) (by kernel_rfl) (fun _ _ _ h => h) (Or.inl ⟨by rfl, ?_⟩) (by assumption) ?_
        rotate_left
        · intro w hSw; clear hSw; go_simp; try with_reducible rfl
        try simp only [Act.put, List.setIfInBounds_toArray, List.set_cons_zero, List.set_cons_succ]
        refine wpAnyH_take (i := 22) (oi := { dst := some 4, op := Go.Op.assign (Go.Operand.tmp 92), type := 4, pos := "law.go:83", after := #[{ on := 21, ground := Go.Ground.data }, { on := 18, ground := Go.Ground.chain }, { on := 0, ground := Go.Ground.phase }, { on := 1, ground := Go.Ground.phase }, { on := 2, ground := Go.Ground.phase }, { on := 3, ground := Go.Ground.phase }, { on := 4, ground := Go.Ground.phase }, { on := 5, ground := Go.Ground.phase }, { on := 6, ground := Go.Ground.phase }, { on := 7, ground := Go.Ground.phase }, { on := 8, ground := Go.Ground.phase }, { on := 9, ground := Go.Ground.phase }, { on := 10, ground := Go.Ground.phase }, { on := 11, ground := Go.Ground.phase }, { on := 12, ground := Go.Ground.phase }, { on := 13, ground := Go.Ground.phase }, { on := 14, ground := Go.Ground.phase }, { on := 15, ground := Go.Ground.phase }, { on := 16, ground := Go.Ground.phase }, { on := 17, ground := Go.Ground.phase }, { on := 18, ground := Go.Ground.phase }, { on := 19, ground := Go.Ground.phase }, { on := 20, ground := Go.Ground.phase }, { on := 21, ground := Go.Ground.phase }], guard := none }) (v := ?_) rfl (by kernel_rfl) (by kernel_rfl) (by kernel_rfl) (fun _ _ _ h => h) (Or.inl ⟨by rfl, ?_⟩) (by assumption) ?_
        rotate_left
        · intro w hSw; clear hSw; go_simp; try with_reducible rfl
        try simp only [Act.put, List.setIfInBounds_toArray, List.set_cons_zero, List.set_cons_succ]
        refine wpAnyH_done (by kernel_rfl) ?_ _
        have hF := hHeld
        clear hHeld
        go_wp2_with fail
        go_ret
        exact ⟨rfl, hF.bl⟩
      · simp only [Bool.true_and] at hSu
        cases d
        · skip
          refine wp_region_held_drew (S := (fun w' => Fv w t u x a vp vi vk xp xi xk (.slice P7 x.ps.length p7) (.slice I7 x.d.is.len q7) (.slice K7 x.ks.len r7) (.slice P9 a.ps.length p9) (.slice I9 a.d.is.len q9) (.slice K9 a.ks.len r9) (.slice Pb a.ps.length pb) (.slice Ib a.d.is.len qb) (.slice Kb a.ks.len rb) g8 g9 gb w')) rfl hF.drew (fun hHeld => ?_)
          clear hF
          refine wpAnyH_take (i := 0) (oi := { dst := some 62, op := Go.Op.load 28 (Go.Operand.tmp 3), type := 28, pos := "law.go:82", after := #[], guard := none }) (v := _) rfl (by kernel_rfl) (by kernel_rfl) (by kernel_rfl) (fun _ _ _ h => h) (Or.inl ⟨by rfl, fun w' hS => load_term w' _ _ _ _ _ _ _ _ _ _ _ _ _ rfl rfl hS.lu⟩) (by assumption) ?_
          try simp only [Act.put, List.setIfInBounds_toArray, List.set_cons_zero, List.set_cons_succ]
          refine wpAnyH_ready (rs := [1]) (by kernel_rfl) (by simp) ?_
          refine AllReadyH.cons (o := { dst := some 63, op := Go.Op.call { callee := Go.Callee.value (Go.Operand.func 13), args := #[Go.Operand.tmp 62], argTypes := #[28] }, type := 4, pos := "law.go:82", after := #[{ on := 0, ground := Go.Ground.data }], guard := none }) rfl (fun K hK => ?_) AllReadyH.nil
          rw [if_pos (by rfl)]
          go_simp
          refine (hRu.out _ hHeld.bl).mono ?_
          rintro e w9 ⟨rfl, hb⟩
          have hMM := hHeld.below hb
          clear hb hHeld 
          refine hK.out _ _ hMM (fun hHeld => ?_)
          clear hK K
          try simp only [Act.put, List.setIfInBounds_toArray, List.set_cons_zero, List.set_cons_succ]
          refine wpAnyH_take (i := 2) (oi := { dst := some 64, op := Go.Op.move (Go.Operand.tmp 63), type := 4, pos := "law.go:82", after := #[{ on := 1, ground := Go.Ground.data }, { on := 1, ground := Go.Ground.chain }], guard := none }) (v := ?_) rfl (by kernel_rfl) (by kernel_rfl) (by kernel_rfl) (fun _ _ _ h => h) (Or.inl ⟨by rfl, ?_⟩) (by assumption) ?_
          rotate_left
          · intro w hSw; clear hSw; go_simp; try with_reducible rfl
          try simp only [Act.put, List.setIfInBounds_toArray, List.set_cons_zero, List.set_cons_succ]
          refine wpAnyH_take (i := 3) (oi := { dst := some 65, op := Go.Op.load 28 (Go.Operand.tmp 2), type := 28, pos := "law.go:82", after := #[{ on := 2, ground := Go.Ground.guard }], guard := some (2, true) }) (v := _) rfl (by kernel_rfl) (by kernel_rfl) (by kernel_rfl) (fun _ _ _ h => h) (Or.inl ⟨by rfl, fun w' hS => load_term w' _ _ _ _ _ _ _ _ _ _ _ _ _ rfl rfl hS.lt⟩) (by assumption) ?_
          try simp only [Act.put, List.setIfInBounds_toArray, List.set_cons_zero, List.set_cons_succ]
          refine wpAnyH_take (i := 5) (oi := { dst := some 67, op := Go.Op.load 28 (Go.Operand.tmp 3), type := 28, pos := "law.go:82", after := #[{ on := 2, ground := Go.Ground.guard }], guard := some (2, true) }) (v := _) rfl (by kernel_rfl) (by kernel_rfl) (by kernel_rfl) (fun _ _ _ h => h) (Or.inl ⟨by rfl, fun w' hS => load_term w' _ _ _ _ _ _ _ _ _ _ _ _ _ rfl rfl hS.lu⟩) (by assumption) ?_
          try simp only [Act.put, List.setIfInBounds_toArray, List.set_cons_zero, List.set_cons_succ]
          refine wpAnyH_ready (rs := [4]) (by kernel_rfl) (by simp) ?_
          refine AllReadyH.cons (o := { dst := some 66, op := Go.Op.call { callee := Go.Callee.value (Go.Operand.func 21), args := #[Go.Operand.tmp 65], argTypes := #[28] }, type := 28, pos := "law.go:82", after := #[{ on := 3, ground := Go.Ground.data }, { on := 2, ground := Go.Ground.chain }, { on := 2, ground := Go.Ground.guard }], guard := some (2, true) }) rfl (fun K hK => ?_) AllReadyH.nil
          rw [if_pos (by rfl)]
          go_simp
          refine (hAt.out _ hHeld.bl).mono ?_
          rintro e w9 ⟨v1, v2, v3, rfl, hia, hb⟩
          have hia1 := Lib.hid hia
          have hMM := hHeld.below hb
          clear hb hHeld hia
          refine hK.out _ _ hMM (fun hHeld => ?_)
          clear hK K
          try simp only [Act.put, List.setIfInBounds_toArray, List.set_cons_zero, List.set_cons_succ]
          refine wpAnyH_ready (rs := [6]) (by kernel_rfl) (by simp) ?_
          refine AllReadyH.cons (o := { dst := some 68, op := Go.Op.call { callee := Go.Callee.value (Go.Operand.func 21), args := #[Go.Operand.tmp 67], argTypes := #[28] }, type := 28, pos := "law.go:82", after := #[{ on := 5, ground := Go.Ground.data }, { on := 4, ground := Go.Ground.chain }, { on := 2, ground := Go.Ground.guard }], guard := some (2, true) }) rfl (fun K hK => ?_) AllReadyH.nil
          rw [if_pos (by rfl)]
          go_simp
          refine (hAu.out _ hHeld.bl).mono ?_
          rintro e w9 ⟨v4, v5, v6, rfl, hib, hb⟩
          have hib1 := Lib.hid hib
          have hia2 := Lib.hid (hia1.out.below hb)
          have hMM := hHeld.below hb
          clear hb hHeld hib hia1
          refine hK.out _ _ hMM (fun hHeld => ?_)
          clear hK K
          try simp only [Act.put, List.setIfInBounds_toArray, List.set_cons_zero, List.set_cons_succ]
          refine wpAnyH_ready (rs := [7]) (by kernel_rfl) (by simp) ?_
          refine AllReadyH.cons (o := { dst := some 69, op := Go.Op.call { callee := Go.Callee.value (Go.Operand.func 18), args := #[Go.Operand.tmp 66, Go.Operand.tmp 68], argTypes := #[28, 28] }, type := 4, pos := "law.go:82", after := #[{ on := 4, ground := Go.Ground.data }, { on := 6, ground := Go.Ground.data }, { on := 6, ground := Go.Ground.chain }, { on := 2, ground := Go.Ground.guard }], guard := some (2, true) }) rfl (fun K hK => ?_) AllReadyH.nil
          rw [if_pos (by rfl)]
          go_simp
          refine (hE.out _ _ _ _ _ _ _ hia2.out hib1.out).mono ?_
          rintro e w9 ⟨rfl, hb⟩
          have hMM := hHeld.below hb
          clear hb hHeld hia2 hib1
          refine hK.out _ _ hMM (fun hHeld => ?_)
          clear hK K
          try simp only [Act.put, List.setIfInBounds_toArray, List.set_cons_zero, List.set_cons_succ]
          refine wpAnyH_take (i := 8) (oi := { dst := some 70, op := Go.Op.pick (Go.Operand.tmp 64) (Go.Operand.tmp 69) (Go.Operand.const (Go.Value.bool false)), type := 4, pos := "law.go:82", after := #[{ on := 2, ground := Go.Ground.data }, { on := 7, ground := Go.Ground.data }], guard := none }) (v := ?_) rfl (by kernel_rfl) (by kernel_rfl) (by kernel_rfl) (fun _ _ _ h => h) (Or.inl ⟨by rfl, ?_⟩) (by assumption) ?_
          rotate_left
          · intro w hSw; clear hSw; go_simp; try with_reducible rfl
          try simp only [Act.put, List.setIfInBounds_toArray, List.set_cons_zero, List.set_cons_succ]
          refine wpAnyH_take (i := 9) (oi := { dst := some 13, op := Go.Op.assign (Go.Operand.tmp 70), type := 4, pos := "law.go:82", after := #[{ on := 8, ground := Go.Ground.data }, { on := 7, ground := Go.Ground.chain }, { on := 0, ground := Go.Ground.phase }, { on := 1, ground := Go.Ground.phase }, { on := 2, ground := Go.Ground.phase }, { on := 3, ground := Go.Ground.phase }, { on := 4, ground := Go.Ground.phase }, { on := 5, ground := Go.Ground.phase }, { on := 6, ground := Go.Ground.phase }, { on := 7, ground := Go.Ground.phase }, { on := 8, ground := Go.Ground.phase }], guard := none }) (v := ?_) rfl (by kernel_rfl) (by kernel_rfl) (by kernel_rfl) (fun _ _ _ h => h) (Or.inl ⟨by rfl, ?_⟩) (by assumption) ?_
          rotate_left
          · intro w hSw; clear hSw; go_simp; try with_reducible rfl
          try simp only [Act.put, List.setIfInBounds_toArray, List.set_cons_zero, List.set_cons_succ]
          refine wpAnyH_done (by kernel_rfl) ?_ _
          have hF := hHeld
          clear hHeld
          go_wp2_with fail
          refine wp_region_held_drew (S := (fun w' => Fv w t u x a vp vi vk xp xi xk (.slice P7 x.ps.length p7) (.slice I7 x.d.is.len q7) (.slice K7 x.ks.len r7) (.slice P9 a.ps.length p9) (.slice I9 a.d.is.len q9) (.slice K9 a.ks.len r9) (.slice Pb a.ps.length pb) (.slice Ib a.d.is.len qb) (.slice Kb a.ks.len rb) g8 g9 gb w')) rfl hF.drew (fun hHeld => ?_)
          clear hF
          refine wpAnyH_take (i := 0) (oi := { dst := some 71, op := Go.Op.move (Go.Operand.tmp 12), type := 32, pos := "law.go:83", after := #[], guard := none }) (v := ?_) rfl (by kernel_rfl) (by kernel_rfl) (by kernel_rfl) (fun _ _ _ h => h) (Or.inl ⟨by rfl, ?_⟩) (by assumption) ?_
          rotate_left
          · intro w hSw; clear hSw; go_simp; try with_reducible rfl
          try simp only [Act.put, List.setIfInBounds_toArray, List.set_cons_zero, List.set_cons_succ]
          refine wpAnyH_take (i := 1) (oi := { dst := some 72, op := Go.Op.binOp Go.BinOp.eql 32 (Go.Operand.tmp 71) (Go.Operand.const Go.Value.nilIface) 32, type := 4, pos := "law.go:83", after := #[{ on := 0, ground := Go.Ground.data }], guard := none }) (v := ?_) rfl (by kernel_rfl) (by kernel_rfl) (by kernel_rfl) (fun _ _ _ h => h) (Or.inl ⟨by rfl, ?_⟩) (by assumption) ?_
          rotate_left
          · intro w hSw; clear hSw; go_simp; try with_reducible rfl
          try simp only [Act.put, List.setIfInBounds_toArray, List.set_cons_zero, List.set_cons_succ]
          refine wpAnyH_take (i := 2) (oi := { dst := some 73, op := Go.Op.move (Go.Operand.tmp 72), type := 4, pos := "law.go:83", after := #[{ on := 1, ground := Go.Ground.data }], guard := none }) (v := ?_) rfl (by kernel_rfl) (by kernel_rfl) (by kernel_rfl) (fun _ _ _ h => h) (Or.inl ⟨by rfl, ?_⟩) (by assumption) ?_
          rotate_left
          · intro w hSw; clear hSw; go_simp; try with_reducible rfl
          try simp only [Act.put, List.setIfInBounds_toArray, List.set_cons_zero, List.set_cons_succ]
          refine wpAnyH_take (i := 3) (oi := { dst := some 74, op := Go.Op.load 28 (Go.Operand.tmp 9), type := 28, pos := "law.go:83", after := #[{ on := 2, ground := Go.Ground.guard }], guard := some (2, true) }) (v := _) rfl (by kernel_rfl) (by kernel_rfl) (by kernel_rfl) (fun _ _ _ h => h) (Or.inl ⟨by rfl, fun w' hS => load_term w' _ _ _ _ _ _ _ _ _ _ _ _ _ rfl rfl hS.l9⟩) (by assumption) ?_
          try simp only [Act.put, List.setIfInBounds_toArray, List.set_cons_zero, List.set_cons_succ]
          refine wpAnyH_take (i := 4) (oi := { dst := some 75, op := Go.Op.load 28 (Go.Operand.tmp 11), type := 28, pos := "law.go:83", after := #[{ on := 2, ground := Go.Ground.guard }], guard := some (2, true) }) (v := _) rfl (by kernel_rfl) (by kernel_rfl) (by kernel_rfl) (fun _ _ _ h => h) (Or.inl ⟨by rfl, fun w' hS => load_term w' _ _ _ _ _ _ _ _ _ _ _ _ _ rfl rfl hS.lb⟩) (by assumption) ?_
          try simp only [Act.put, List.setIfInBounds_toArray, List.set_cons_zero, List.set_cons_succ]
          refine wpAnyH_ready (rs := [5]) (by kernel_rfl) (by simp) ?_
          refine AllReadyH.cons (o := { dst := some 76, op := Go.Op.call { callee := Go.Callee.value (Go.Operand.func 18), args := #[Go.Operand.tmp 74, Go.Operand.tmp 75], argTypes := #[28, 28] }, type := 4, pos := "law.go:83", after := #[{ on := 3, ground := Go.Ground.data }, { on := 4, ground := Go.Ground.data }, { on := 2, ground := Go.Ground.chain }, { on := 2, ground := Go.Ground.guard }], guard := some (2, true) }) rfl (fun K hK => ?_) AllReadyH.nil
          rw [if_pos (by rfl)]
          go_simp
          refine (hEE.out _ _ _ _ _ _ _ hHeld.i9 hHeld.ib).mono ?_
          rintro e w9 ⟨rfl, hb⟩
          have hMM := hHeld.below hb
          clear hb hHeld 
          refine hK.out _ _ hMM (fun hHeld => ?_)
          clear hK K
          try simp only [Act.put, List.setIfInBounds_toArray, List.set_cons_zero, List.set_cons_succ]
          refine wpAnyH_take (i := 6) (oi := { dst := some 77, op := Go.Op.pick (Go.Operand.tmp 73) (Go.Operand.tmp 76) (Go.Operand.const (Go.Value.bool false)), type := 4, pos := "law.go:83", after := #[{ on := 2, ground := Go.Ground.data }, { on := 5, ground := Go.Ground.data }], guard := none }) (v := ?_) rfl (by kernel_rfl) (by kernel_rfl) (by kernel_rfl) (fun _ _ _ h => h) (Or.inl ⟨by rfl, ?_⟩) (by assumption) ?_
          rotate_left
          · intro w hSw; clear hSw; go_simp; try with_reducible rfl
          try simp only [Act.put, List.setIfInBounds_toArray, List.set_cons_zero, List.set_cons_succ]
          refine wpAnyH_take (i := 7) (oi := { dst := some 78, op := Go.Op.move (Go.Operand.tmp 77), type := 4, pos := "law.go:83", after := #[{ on := 6, ground := Go.Ground.data }, { on := 5, ground := Go.Ground.chain }], guard := none }) (v := ?_) rfl (by kernel_rfl) (by kernel_rfl) (by kernel_rfl) (fun _ _ _ h => h) (Or.inl ⟨by rfl, ?_⟩) (by assumption) ?_
          rotate_left
          · intro w hSw; clear hSw; go_simp; try with_reducible rfl
          try simp only [Act.put, List.setIfInBounds_toArray, List.set_cons_zero, List.set_cons_succ]
          refine wpAnyH_take (i := 8) (oi := { dst := some 79, op := Go.Op.load 28 (Go.Operand.tmp 2), type := 28, pos := "law.go:83", after := #[{ on := 7, ground := Go.Ground.guard }], guard := some (7, true) }) (v := _) rfl (by kernel_rfl) (by kernel_rfl) (by kernel_rfl) (fun _ _ _ h => h) (Or.inl ⟨by rfl, fun w' hS => load_term w' _ _ _ _ _ _ _ _ _ _ _ _ _ rfl rfl hS.lt⟩) (by assumption) ?_
          try simp only [Act.put, List.setIfInBounds_toArray, List.set_cons_zero, List.set_cons_succ]
          refine wpAnyH_take (i := 10) (oi := { dst := some 81, op := Go.Op.load 28 (Go.Operand.tmp 8), type := 28, pos := "law.go:83", after := #[{ on := 7, ground := Go.Ground.guard }], guard := some (7, true) }) (v := _) rfl (by kernel_rfl) (by kernel_rfl) (by kernel_rfl) (fun _ _ _ h => h) (Or.inl ⟨by rfl, fun w' hS => load_term w' _ _ _ _ _ _ _ _ _ _ _ _ _ rfl rfl hS.l8⟩) (by assumption) ?_
          try simp only [Act.put, List.setIfInBounds_toArray, List.set_cons_zero, List.set_cons_succ]
          refine wpAnyH_ready (rs := [9]) (by kernel_rfl) (by simp) ?_
          refine AllReadyH.cons (o := { dst := some 80, op := Go.Op.call { callee := Go.Callee.value (Go.Operand.func 10), args := #[Go.Operand.tmp 79], argTypes := #[28] }, type := 28, pos := "law.go:83", after := #[{ on := 8, ground := Go.Ground.data }, { on := 7, ground := Go.Ground.chain }, { on := 7, ground := Go.Ground.guard }], guard := some (7, true) }) rfl (fun K hK => ?_) AllReadyH.nil
          rw [if_pos (by rfl)]
          go_simp
          refine (hO.out _ hHeld.bl).mono ?_
          rintro e w9 ⟨v1, v2, v3, rfl, hnn, hb⟩
          have hq1 := Lib.hid hnn.tmin
          have hMM := hHeld.below hb
          clear hb hHeld hnn 
          refine hK.out _ _ hMM (fun hHeld => ?_)
          clear hK K
          try simp only [Act.put, List.setIfInBounds_toArray, List.set_cons_zero, List.set_cons_succ]
          refine wpAnyH_ready (rs := [11]) (by kernel_rfl) (by simp) ?_
          refine AllReadyH.cons (o := { dst := some 82, op := Go.Op.call { callee := Go.Callee.value (Go.Operand.func 19), args := #[Go.Operand.tmp 80, Go.Operand.tmp 81], argTypes := #[28, 28] }, type := 4, pos := "law.go:83", after := #[{ on := 9, ground := Go.Ground.data }, { on := 10, ground := Go.Ground.data }, { on := 9, ground := Go.Ground.chain }, { on := 7, ground := Go.Ground.guard }], guard := some (7, true) }) rfl (fun K hK => ?_) AllReadyH.nil
          rw [if_pos (by rfl)]
          go_simp
          refine (hSx1.out _ _ _ _ _ _ _ hq1.out hHeld.i8).mono ?_
          rintro e w9 ⟨rfl, hb⟩
          have hMM := hHeld.below hb
          clear hb hHeld hq1
          refine hK.out _ _ hMM (fun hHeld => ?_)
          clear hK K
          try simp only [Act.put, List.setIfInBounds_toArray, List.set_cons_zero, List.set_cons_succ]
          refine wpAnyH_take (i := 12) (oi := { dst := some 83, op := Go.Op.pick (Go.Operand.tmp 78) (Go.Operand.tmp 82) (Go.Operand.const (Go.Value.bool false)), type := 4, pos := "law.go:83", after := #[{ on := 7, ground := Go.Ground.data }, { on := 11, ground := Go.Ground.data }], guard := none }) (v := ?_) rfl (by kernel_rfl) (by kernel_rfl) (by kernel_rfl) (fun _ _ _ h => h) (Or.inl ⟨by rfl, ?_⟩) (by assumption) ?_
          rotate_left
          · intro w hSw; clear hSw; go_simp; try with_reducible rfl
          try simp only [Act.put, List.setIfInBounds_toArray, List.set_cons_zero, List.set_cons_succ]
          refine wpAnyH_take (i := 13) (oi := { dst := some 84, op := Go.Op.move (Go.Operand.tmp 83), type := 4, pos := "law.go:83", after := #[{ on := 12, ground := Go.Ground.data }, { on := 11, ground := Go.Ground.chain }], guard := none }) (v := ?_) rfl (by kernel_rfl) (by kernel_rfl) (by kernel_rfl) (fun _ _ _ h => h) (Or.inl ⟨by rfl, ?_⟩) (by assumption) ?_
          rotate_left
          · intro w hSw; clear hSw; go_simp; try with_reducible rfl
          try simp only [Act.put, List.setIfInBounds_toArray, List.set_cons_zero, List.set_cons_succ]
          refine wpAnyH_take (i := 14) (oi := { dst := some 85, op := Go.Op.load 28 (Go.Operand.tmp 2), type := 28, pos := "law.go:83", after := #[{ on := 13, ground := Go.Ground.guard }], guard := some (13, true) }) (v := _) rfl (by kernel_rfl) (by kernel_rfl) (by kernel_rfl) (fun _ _ _ h => h) (Or.inl ⟨by rfl, fun w' hS => load_term w' _ _ _ _ _ _ _ _ _ _ _ _ _ rfl rfl hS.lt⟩) (by assumption) ?_
          try simp only [Act.put, List.setIfInBounds_toArray, List.set_cons_zero, List.set_cons_succ]
          refine wpAnyH_take (i := 16) (oi := { dst := some 87, op := Go.Op.load 28 (Go.Operand.tmp 3), type := 28, pos := "law.go:83", after := #[{ on := 13, ground := Go.Ground.guard }], guard := some (13, true) }) (v := _) rfl (by kernel_rfl) (by kernel_rfl) (by kernel_rfl) (fun _ _ _ h => h) (Or.inl ⟨by rfl, fun w' hS => load_term w' _ _ _ _ _ _ _ _ _ _ _ _ _ rfl rfl hS.lu⟩) (by assumption) ?_
          try simp only [Act.put, List.setIfInBounds_toArray, List.set_cons_zero, List.set_cons_succ]
          refine wpAnyH_take (i := 19) (oi := { dst := some 90, op := Go.Op.move (Go.Operand.tmp 13), type := 4, pos := "law.go:83", after := #[{ on := 13, ground := Go.Ground.guard }], guard := some (13, true) }) (v := ?_) rfl (by kernel_rfl) (by kernel_rfl) (by kernel_rfl) (fun _ _ _ h => h) (Or.inl ⟨by rfl, ?_⟩) (by assumption) ?_
          rotate_left
          · intro w hSw; clear hSw; go_simp; try with_reducible rfl
          try simp only [Act.put, List.setIfInBounds_toArray, List.set_cons_zero, List.set_cons_succ]
          refine wpAnyH_ready (rs := [15]) (by kernel_rfl) (by simp) ?_
          refine AllReadyH.cons (o := { dst := some 86, op := Go.Op.call { callee := Go.Callee.value (Go.Operand.func 10), args := #[Go.Operand.tmp 85], argTypes := #[28] }, type := 28, pos := "law.go:83", after := #[{ on := 14, ground := Go.Ground.data }, { on := 13, ground := Go.Ground.chain }, { on := 13, ground := Go.Ground.guard }], guard := some (13, true) }) rfl (fun K hK => ?_) AllReadyH.nil
          rw [if_pos (by rfl)]
          go_simp
          refine (hO.out _ hHeld.bl).mono ?_
          rintro e w9 ⟨v1, v2, v3, rfl, hnn, hb⟩
          have hq2 := Lib.hid hnn.tmin
          have hMM := hHeld.below hb
          clear hb hHeld hnn 
          refine hK.out _ _ hMM (fun hHeld => ?_)
          clear hK K
          try simp only [Act.put, List.setIfInBounds_toArray, List.set_cons_zero, List.set_cons_succ]
          refine wpAnyH_ready (rs := [17]) (by kernel_rfl) (by simp) ?_
          refine AllReadyH.cons (o := { dst := some 88, op := Go.Op.call { callee := Go.Callee.value (Go.Operand.func 10), args := #[Go.Operand.tmp 87], argTypes := #[28] }, type := 28, pos := "law.go:83", after := #[{ on := 16, ground := Go.Ground.data }, { on := 15, ground := Go.Ground.chain }, { on := 13, ground := Go.Ground.guard }], guard := some (13, true) }) rfl (fun K hK => ?_) AllReadyH.nil
          rw [if_pos (by rfl)]
          go_simp
          refine (hOu.out _ hHeld.bl).mono ?_
          rintro e w9 ⟨v1, v2, v3, rfl, hnn, hb⟩
          have hq3 := Lib.hid hnn.tmin
          have hq4 := Lib.hid (hq2.out.below hb)
          have hMM := hHeld.below hb
          clear hb hHeld hnn hq2
          refine hK.out _ _ hMM (fun hHeld => ?_)
          clear hK K
          try simp only [Act.put, List.setIfInBounds_toArray, List.set_cons_zero, List.set_cons_succ]
          refine wpAnyH_ready (rs := [18]) (by kernel_rfl) (by simp) ?_
          refine AllReadyH.cons (o := { dst := some 89, op := Go.Op.call { callee := Go.Callee.value (Go.Operand.func 19), args := #[Go.Operand.tmp 86, Go.Operand.tmp 88], argTypes := #[28, 28] }, type := 4, pos := "law.go:83", after := #[{ on := 15, ground := Go.Ground.data }, { on := 17, ground := Go.Ground.data }, { on := 17, ground := Go.Ground.chain }, { on := 13, ground := Go.Ground.guard }], guard := some (13, true) }) rfl (fun K hK => ?_) AllReadyH.nil
          rw [if_pos (by rfl)]
          go_simp
          refine (hSu.out _ _ _ _ _ _ _ hq4.out hq3.out).mono ?_
          rintro e w9 ⟨rfl, hb⟩
          have hMM := hHeld.below hb
          clear hb hHeld hq3 hq4
          refine hK.out _ _ hMM (fun hHeld => ?_)
          clear hK K
          try simp only [Act.put, List.setIfInBounds_toArray, List.set_cons_zero, List.set_cons_succ]
          refine wpAnyH_take (i := 20) (oi := { dst := some 91, op := Go.Op.binOp Go.BinOp.eql 4 (Go.Operand.tmp 89) (Go.Operand.tmp 90) 4, type := 4, pos := "law.go:83", after := #[{ on := 18, ground := Go.Ground.data }, { on := 19, ground := Go.Ground.data }, { on := 13, ground := Go.Ground.guard }], guard := some (13, true) }) (v := ?_) rfl (by kernel_rfl) (by kernel_rfl) (by kernel_rfl) (fun _ _ _ h => h) (Or.inl ⟨by rfl, ?_⟩) (by assumption) ?_
          rotate_left
          · intro w hSw; clear hSw; go_simp; try with_reducible rfl
          try simp only [Act.put, List.setIfInBounds_toArray, List.set_cons_zero, List.set_cons_succ]
          refine wpAnyH_take (i := 21) (oi := { dst := some 92, op := Go.Op.pick (Go.Operand.tmp 84) (Go.Operand.tmp 91) (Go.Operand.const (Go.Value.bool false)), type := 4, pos := "law.go:83", after := #[{ on := 13, ground := Go.Ground.data }, { on := 20, ground := Go.Ground.data }], guard := none }) (v := ?_) rfl (by kernel_rfl) (by kernel_rfl) (by kernel_rfl) (fun _ _ _ h => h) (Or.inl ⟨by rfl, ?_⟩) (by assumption) ?_
          rotate_left
          · intro w hSw; clear hSw; go_simp; try with_reducible rfl
          try simp only [Act.put, List.setIfInBounds_toArray, List.set_cons_zero, List.set_cons_succ]
          refine wpAnyH_take (i := 22) (oi := { dst := some 4, op := Go.Op.assign (Go.Operand.tmp 92), type := 4, pos := "law.go:83", after := #[{ on := 21, ground := Go.Ground.data }, { on := 18, ground := Go.Ground.chain }, { on := 0, ground := Go.Ground.phase }, { on := 1, ground := Go.Ground.phase }, { on := 2, ground := Go.Ground.phase }, { on := 3, ground := Go.Ground.phase }, { on := 4, ground := Go.Ground.phase }, { on := 5, ground := Go.Ground.phase }, { on := 6, ground := Go.Ground.phase }, { on := 7, ground := Go.Ground.phase }, { on := 8, ground := Go.Ground.phase }, { on := 9, ground := Go.Ground.phase }, { on := 10, ground := Go.Ground.phase }, { on := 11, ground := Go.Ground.phase }, { on := 12, ground := Go.Ground.phase }, { on := 13, ground := Go.Ground.phase }, { on := 14, ground := Go.Ground.phase }, { on := 15, ground := Go.Ground.phase }, { on := 16, ground := Go.Ground.phase }, { on := 17, ground := Go.Ground.phase }, { on := 18, ground := Go.Ground.phase }, { on := 19, ground := Go.Ground.phase }, { on := 20, ground := Go.Ground.phase }, { on := 21, ground := Go.Ground.phase }], guard := none }) (v := ?_) rfl (by kernel_rfl) (by kernel_rfl) (by kernel_rfl) (fun _ _ _ h => h) (Or.inl ⟨by rfl, ?_⟩) (by assumption) ?_
          rotate_left
          · intro w hSw; clear hSw; go_simp; try with_reducible rfl
          try simp only [Act.put, List.setIfInBounds_toArray, List.set_cons_zero, List.set_cons_succ]
          refine wpAnyH_done (by kernel_rfl) ?_ _
          have hF := hHeld
          clear hHeld
          go_wp2_with fail
          go_ret
          exact ⟨rfl, hF.bl⟩
        · skip
          refine wp_region_held_drew (S := (fun w' => Fv w t u x a vp vi vk xp xi xk (.slice P7 x.ps.length p7) (.slice I7 x.d.is.len q7) (.slice K7 x.ks.len r7) (.slice P9 a.ps.length p9) (.slice I9 a.d.is.len q9) (.slice K9 a.ks.len r9) (.slice Pb a.ps.length pb) (.slice Ib a.d.is.len qb) (.slice Kb a.ks.len rb) g8 g9 gb w')) rfl hF.drew (fun hHeld => ?_)
          clear hF
          refine wpAnyH_take (i := 0) (oi := { dst := some 62, op := Go.Op.load 28 (Go.Operand.tmp 3), type := 28, pos := "law.go:82", after := #[], guard := none }) (v := _) rfl (by kernel_rfl) (by kernel_rfl) (by kernel_rfl) (fun _ _ _ h => h) (Or.inl ⟨by rfl, fun w' hS => load_term w' _ _ _ _ _ _ _ _ _ _ _ _ _ rfl rfl hS.lu⟩) (by assumption) ?_
          try simp only [Act.put, List.setIfInBounds_toArray, List.set_cons_zero, List.set_cons_succ]
          refine wpAnyH_ready (rs := [1]) (by kernel_rfl) (by simp) ?_
          refine AllReadyH.cons (o := { dst := some 63, op := Go.Op.call { callee := Go.Callee.value (Go.Operand.func 13), args := #[Go.Operand.tmp 62], argTypes := #[28] }, type := 4, pos := "law.go:82", after := #[{ on := 0, ground := Go.Ground.data }], guard := none }) rfl (fun K hK => ?_) AllReadyH.nil
          rw [if_pos (by rfl)]
          go_simp
          refine (hRu.out _ hHeld.bl).mono ?_
          rintro e w9 ⟨rfl, hb⟩
          have hMM := hHeld.below hb
          clear hb hHeld 
          refine hK.out _ _ hMM (fun hHeld => ?_)
          clear hK K
          try simp only [Act.put, List.setIfInBounds_toArray, List.set_cons_zero, List.set_cons_succ]
          refine wpAnyH_take (i := 2) (oi := { dst := some 64, op := Go.Op.move (Go.Operand.tmp 63), type := 4, pos := "law.go:82", after := #[{ on := 1, ground := Go.Ground.data }, { on := 1, ground := Go.Ground.chain }], guard := none }) (v := ?_) rfl (by kernel_rfl) (by kernel_rfl) (by kernel_rfl) (fun _ _ _ h => h) (Or.inl ⟨by rfl, ?_⟩) (by assumption) ?_
          rotate_left
          · intro w hSw; clear hSw; go_simp; try with_reducible rfl
          try simp only [Act.put, List.setIfInBounds_toArray, List.set_cons_zero, List.set_cons_succ]
          refine wpAnyH_take (i := 3) (oi := { dst := some 65, op := Go.Op.load 28 (Go.Operand.tmp 2), type := 28, pos := "law.go:82", after := #[{ on := 2, ground := Go.Ground.guard }], guard := some (2, true) }) (v := _) rfl (by kernel_rfl) (by kernel_rfl) (by kernel_rfl) (fun _ _ _ h => h) (Or.inl ⟨by rfl, fun w' hS => load_term w' _ _ _ _ _ _ _ _ _ _ _ _ _ rfl rfl hS.lt⟩) (by assumption) ?_
          try simp only [Act.put, List.setIfInBounds_toArray, List.set_cons_zero, List.set_cons_succ]
          refine wpAnyH_take (i := 5) (oi := { dst := some 67, op := Go.Op.load 28 (Go.Operand.tmp 3), type := 28, pos := "law.go:82", after := #[{ on := 2, ground := Go.Ground.guard }], guard := some (2, true) }) (v := _) rfl (by kernel_rfl) (by kernel_rfl) (by kernel_rfl) (fun _ _ _ h => h) (Or.inl ⟨by rfl, fun w' hS => load_term w' _ _ _ _ _ _ _ _ _ _ _ _ _ rfl rfl hS.lu⟩) (by assumption) ?_
          try simp only [Act.put, List.setIfInBounds_toArray, List.set_cons_zero, List.set_cons_succ]
          refine wpAnyH_ready (rs := [4]) (by kernel_rfl) (by simp) ?_
          refine AllReadyH.cons (o := { dst := some 66, op := Go.Op.call { callee := Go.Callee.value (Go.Operand.func 21), args := #[Go.Operand.tmp 65], argTypes := #[28] }, type := 28, pos := "law.go:82", after := #[{ on := 3, ground := Go.Ground.data }, { on := 2, ground := Go.Ground.chain }, { on := 2, ground := Go.Ground.guard }], guard := some (2, true) }) rfl (fun K hK => ?_) AllReadyH.nil
          rw [if_pos (by rfl)]
          go_simp
          refine (hAt.out _ hHeld.bl).mono ?_
          rintro e w9 ⟨v1, v2, v3, rfl, hia, hb⟩
          have hia1 := Lib.hid hia
          have hMM := hHeld.below hb
          clear hb hHeld hia
          refine hK.out _ _ hMM (fun hHeld => ?_)
          clear hK K
          try simp only [Act.put, List.setIfInBounds_toArray, List.set_cons_zero, List.set_cons_succ]
          refine wpAnyH_ready (rs := [6]) (by kernel_rfl) (by simp) ?_
          refine AllReadyH.cons (o := { dst := some 68, op := Go.Op.call { callee := Go.Callee.value (Go.Operand.func 21), args := #[Go.Operand.tmp 67], argTypes := #[28] }, type := 28, pos := "law.go:82", after := #[{ on := 5, ground := Go.Ground.data }, { on := 4, ground := Go.Ground.chain }, { on := 2, ground := Go.Ground.guard }], guard := some (2, true) }) rfl (fun K hK => ?_) AllReadyH.nil
          rw [if_pos (by rfl)]
          go_simp
          refine (hAu.out _ hHeld.bl).mono ?_
          rintro e w9 ⟨v4, v5, v6, rfl, hib, hb⟩
          have hib1 := Lib.hid hib
          have hia2 := Lib.hid (hia1.out.below hb)
          have hMM := hHeld.below hb
          clear hb hHeld hib hia1
          refine hK.out _ _ hMM (fun hHeld => ?_)
          clear hK K
          try simp only [Act.put, List.setIfInBounds_toArray, List.set_cons_zero, List.set_cons_succ]
          refine wpAnyH_ready (rs := [7]) (by kernel_rfl) (by simp) ?_
          refine AllReadyH.cons (o := { dst := some 69, op := Go.Op.call { callee := Go.Callee.value (Go.Operand.func 18), args := #[Go.Operand.tmp 66, Go.Operand.tmp 68], argTypes := #[28, 28] }, type := 4, pos := "law.go:82", after := #[{ on := 4, ground := Go.Ground.data }, { on := 6, ground := Go.Ground.data }, { on := 6, ground := Go.Ground.chain }, { on := 2, ground := Go.Ground.guard }], guard := some (2, true) }) rfl (fun K hK => ?_) AllReadyH.nil
          rw [if_pos (by rfl)]
          go_simp
          refine (hE.out _ _ _ _ _ _ _ hia2.out hib1.out).mono ?_
          rintro e w9 ⟨rfl, hb⟩
          have hMM := hHeld.below hb
          clear hb hHeld hia2 hib1
          refine hK.out _ _ hMM (fun hHeld => ?_)
          clear hK K
          try simp only [Act.put, List.setIfInBounds_toArray, List.set_cons_zero, List.set_cons_succ]
          refine wpAnyH_take (i := 8) (oi := { dst := some 70, op := Go.Op.pick (Go.Operand.tmp 64) (Go.Operand.tmp 69) (Go.Operand.const (Go.Value.bool false)), type := 4, pos := "law.go:82", after := #[{ on := 2, ground := Go.Ground.data }, { on := 7, ground := Go.Ground.data }], guard := none }) (v := ?_) rfl (by kernel_rfl) (by kernel_rfl) (by kernel_rfl) (fun _ _ _ h => h) (Or.inl ⟨by rfl, ?_⟩) (by assumption) ?_
          rotate_left
          · intro w hSw; clear hSw; go_simp; try with_reducible rfl
          try simp only [Act.put, List.setIfInBounds_toArray, List.set_cons_zero, List.set_cons_succ]
          refine wpAnyH_take (i := 9) (oi := { dst := some 13, op := Go.Op.assign (Go.Operand.tmp 70), type := 4, pos := "law.go:82", after := #[{ on := 8, ground := Go.Ground.data }, { on := 7, ground := Go.Ground.chain }, { on := 0, ground := Go.Ground.phase }, { on := 1, ground := Go.Ground.phase }, { on := 2, ground := Go.Ground.phase }, { on := 3, ground := Go.Ground.phase }, { on := 4, ground := Go.Ground.phase }, { on := 5, ground := Go.Ground.phase }, { on := 6, ground := Go.Ground.phase }, { on := 7, ground := Go.Ground.phase }, { on := 8, ground := Go.Ground.phase }], guard := none }) (v := ?_) rfl (by kernel_rfl) (by kernel_rfl) (by kernel_rfl) (fun _ _ _ h => h) (Or.inl ⟨by rfl, ?_⟩) (by assumption) ?_
          rotate_left
          · intro w hSw; clear hSw; go_simp; try with_reducible rfl
          try simp only [Act.put, List.setIfInBounds_toArray, List.set_cons_zero, List.set_cons_succ]
          refine wpAnyH_done (by kernel_rfl) ?_ _
          have hF := hHeld
          clear hHeld
          go_wp2_with fail
          refine wp_region_held_drew (S := (fun w' => Fv w t u x a vp vi vk xp xi xk (.slice P7 x.ps.length p7) (.slice I7 x.d.is.len q7) (.slice K7 x.ks.len r7) (.slice P9 a.ps.length p9) (.slice I9 a.d.is.len q9) (.slice K9 a.ks.len r9) (.slice Pb a.ps.length pb) (.slice Ib a.d.is.len qb) (.slice Kb a.ks.len rb) g8 g9 gb w')) rfl hF.drew (fun hHeld => ?_)
          clear hF
          refine wpAnyH_take (i := 0) (oi := { dst := some 71, op := Go.Op.move (Go.Operand.tmp 12), type := 32, pos := "law.go:83", after := #[], guard := none }) (v := ?_) rfl (by kernel_rfl) (by kernel_rfl) (by kernel_rfl) (fun _ _ _ h => h) (Or.inl ⟨by rfl, ?_⟩) (by assumption) ?_
          rotate_left
          · intro w hSw; clear hSw; go_simp; try with_reducible rfl
          try simp only [Act.put, List.setIfInBounds_toArray, List.set_cons_zero, List.set_cons_succ]
          refine wpAnyH_take (i := 1) (oi := { dst := some 72, op := Go.Op.binOp Go.BinOp.eql 32 (Go.Operand.tmp 71) (Go.Operand.const Go.Value.nilIface) 32, type := 4, pos := "law.go:83", after := #[{ on := 0, ground := Go.Ground.data }], guard := none }) (v := ?_) rfl (by kernel_rfl) (by kernel_rfl) (by kernel_rfl) (fun _ _ _ h => h) (Or.inl ⟨by rfl, ?_⟩) (by assumption) ?_
          rotate_left
          · intro w hSw; clear hSw; go_simp; try with_reducible rfl
          try simp only [Act.put, List.setIfInBounds_toArray, List.set_cons_zero, List.set_cons_succ]
          refine wpAnyH_take (i := 2) (oi := { dst := some 73, op := Go.Op.move (Go.Operand.tmp 72), type := 4, pos := "law.go:83", after := #[{ on := 1, ground := Go.Ground.data }], guard := none }) (v := ?_) rfl (by kernel_rfl) (by kernel_rfl) (by kernel_rfl) (fun _ _ _ h => h) (Or.inl ⟨by rfl, ?_⟩) (by assumption) ?_
          rotate_left
          · intro w hSw; clear hSw; go_simp; try with_reducible rfl
          try simp only [Act.put, List.setIfInBounds_toArray, List.set_cons_zero, List.set_cons_succ]
          refine wpAnyH_take (i := 3) (oi := { dst := some 74, op := Go.Op.load 28 (Go.Operand.tmp 9), type := 28, pos := "law.go:83", after := #[{ on := 2, ground := Go.Ground.guard }], guard := some (2, true) }) (v := _) rfl (by kernel_rfl) (by kernel_rfl) (by kernel_rfl) (fun _ _ _ h => h) (Or.inl ⟨by rfl, fun w' hS => load_term w' _ _ _ _ _ _ _ _ _ _ _ _ _ rfl rfl hS.l9⟩) (by assumption) ?_
          try simp only [Act.put, List.setIfInBounds_toArray, List.set_cons_zero, List.set_cons_succ]
          refine wpAnyH_take (i := 4) (oi := { dst := some 75, op := Go.Op.load 28 (Go.Operand.tmp 11), type := 28, pos := "law.go:83", after := #[{ on := 2, ground := Go.Ground.guard }], guard := some (2, true) }) (v := _) rfl (by kernel_rfl) (by kernel_rfl) (by kernel_rfl) (fun _ _ _ h => h) (Or.inl ⟨by rfl, fun w' hS => load_term w' _ _ _ _ _ _ _ _ _ _ _ _ _ rfl rfl hS.lb⟩) (by assumption) ?_
          try simp only [Act.put, List.setIfInBounds_toArray, List.set_cons_zero, List.set_cons_succ]
          refine wpAnyH_ready (rs := [5]) (by kernel_rfl) (by simp) ?_
          refine AllReadyH.cons (o := { dst := some 76, op := Go.Op.call { callee := Go.Callee.value (Go.Operand.func 18), args := #[Go.Operand.tmp 74, Go.Operand.tmp 75], argTypes := #[28, 28] }, type := 4, pos := "law.go:83", after := #[{ on := 3, ground := Go.Ground.data }, { on := 4, ground := Go.Ground.data }, { on := 2, ground := Go.Ground.chain }, { on := 2, ground := Go.Ground.guard }], guard := some (2, true) }) rfl (fun K hK => ?_) AllReadyH.nil
          rw [if_pos (by rfl)]
          go_simp
          refine (hEE.out _ _ _ _ _ _ _ hHeld.i9 hHeld.ib).mono ?_
          rintro e w9 ⟨rfl, hb⟩
          have hMM := hHeld.below hb
          clear hb hHeld 
          refine hK.out _ _ hMM (fun hHeld => ?_)
          clear hK K
          try simp only [Act.put, List.setIfInBounds_toArray, List.set_cons_zero, List.set_cons_succ]
          refine wpAnyH_take (i := 6) (oi := { dst := some 77, op := Go.Op.pick (Go.Operand.tmp 73) (Go.Operand.tmp 76) (Go.Operand.const (Go.Value.bool false)), type := 4, pos := "law.go:83", after := #[{ on := 2, ground := Go.Ground.data }, { on := 5, ground := Go.Ground.data }], guard := none }) (v := ?_) rfl (by kernel_rfl) (by kernel_rfl) (by kernel_rfl) (fun _ _ _ h => h) (Or.inl ⟨by rfl, ?_⟩) (by assumption) ?_
          rotate_left
          · intro w hSw; clear hSw; go_simp; try with_reducible rfl
          try simp only [Act.put, List.setIfInBounds_toArray, List.set_cons_zero, List.set_cons_succ]
          refine wpAnyH_take (i := 7) (oi := { dst := some 78, op := Go.Op.move (Go.Operand.tmp 77), type := 4, pos := "law.go:83", after := #[{ on := 6, ground := Go.Ground.data }, { on := 5, ground := Go.Ground.chain }], guard := none }) (v := ?_) rfl (by kernel_rfl) (by kernel_rfl) (by kernel_rfl) (fun _ _ _ h => h) (Or.inl ⟨by rfl, ?_⟩) (by assumption) ?_
          rotate_left
          · intro w hSw; clear hSw; go_simp; try with_reducible rfl
          try simp only [Act.put, List.setIfInBounds_toArray, List.set_cons_zero, List.set_cons_succ]
          refine wpAnyH_take (i := 8) (oi := { dst := some 79, op := Go.Op.load 28 (Go.Operand.tmp 2), type := 28, pos := "law.go:83", after := #[{ on := 7, ground := Go.Ground.guard }], guard := some (7, true) }) (v := _) rfl (by kernel_rfl) (by kernel_rfl) (by kernel_rfl) (fun _ _ _ h => h) (Or.inl ⟨by rfl, fun w' hS => load_term w' _ _ _ _ _ _ _ _ _ _ _ _ _ rfl rfl hS.lt⟩) (by assumption) ?_
          try simp only [Act.put, List.setIfInBounds_toArray, List.set_cons_zero, List.set_cons_succ]
          refine wpAnyH_take (i := 10) (oi := { dst := some 81, op := Go.Op.load 28 (Go.Operand.tmp 8), type := 28, pos := "law.go:83", after := #[{ on := 7, ground := Go.Ground.guard }], guard := some (7, true) }) (v := _) rfl (by kernel_rfl) (by kernel_rfl) (by kernel_rfl) (fun _ _ _ h => h) (Or.inl ⟨by rfl, fun w' hS => load_term w' _ _ _ _ _ _ _ _ _ _ _ _ _ rfl rfl hS.l8⟩) (by assumption) ?_
          try simp only [Act.put, List.setIfInBounds_toArray, List.set_cons_zero, List.set_cons_succ]
          refine wpAnyH_ready (rs := [9]) (by kernel_rfl) (by simp) ?_
          refine AllReadyH.cons (o := { dst := some 80, op := Go.Op.call { callee := Go.Callee.value (Go.Operand.func 10), args := #[Go.Operand.tmp 79], argTypes := #[28] }, type := 28, pos := "law.go:83", after := #[{ on := 8, ground := Go.Ground.data }, { on := 7, ground := Go.Ground.chain }, { on := 7, ground := Go.Ground.guard }], guard := some (7, true) }) rfl (fun K hK => ?_) AllReadyH.nil
          rw [if_pos (by rfl)]
          go_simp
          refine (hO.out _ hHeld.bl).mono ?_
          rintro e w9 ⟨v1, v2, v3, rfl, hnn, hb⟩
          have hq1 := Lib.hid hnn.tmin
          have hMM := hHeld.below hb
          clear hb hHeld hnn 
          refine hK.out _ _ hMM (fun hHeld => ?_)
          clear hK K
          try simp only [Act.put, List.setIfInBounds_toArray, List.set_cons_zero, List.set_cons_succ]
          refine wpAnyH_ready (rs := [11]) (by kernel_rfl) (by simp) ?_
          refine AllReadyH.cons (o := { dst := some 82, op := Go.Op.call { callee := Go.Callee.value (Go.Operand.func 19), args := #[Go.Operand.tmp 80, Go.Operand.tmp 81], argTypes := #[28, 28] }, type := 4, pos := "law.go:83", after := #[{ on := 9, ground := Go.Ground.data }, { on := 10, ground := Go.Ground.data }, { on := 9, ground := Go.Ground.chain }, { on := 7, ground := Go.Ground.guard }], guard := some (7, true) }) rfl (fun K hK => ?_) AllReadyH.nil
          rw [if_pos (by rfl)]
          go_simp
          refine (hSx1.out _ _ _ _ _ _ _ hq1.out hHeld.i8).mono ?_
          rintro e w9 ⟨rfl, hb⟩
          have hMM := hHeld.below hb
          clear hb hHeld hq1
          refine hK.out _ _ hMM (fun hHeld => ?_)
          clear hK K
          try simp only [Act.put, List.setIfInBounds_toArray, List.set_cons_zero, List.set_cons_succ]
          refine wpAnyH_take (i := 12) (oi := { dst := some 83, op := Go.Op.pick (Go.Operand.tmp 78) (Go.Operand.tmp 82) (Go.Operand.const (Go.Value.bool false)), type := 4, pos := "law.go:83", after := #[{ on := 7, ground := Go.Ground.data }, { on := 11, ground := Go.Ground.data }], guard := none }) (v := ?_) rfl (by kernel_rfl) (by kernel_rfl) (by kernel_rfl) (fun _ _ _ h => h) (Or.inl ⟨by rfl, ?_⟩) (by assumption) ?_
          rotate_left
          · intro w hSw; clear hSw; go_simp; try with_reducible rfl
          try simp only [Act.put, List.setIfInBounds_toArray, List.set_cons_zero, List.set_cons_succ]
          refine wpAnyH_take (i := 13) (oi := { dst := some 84, op := Go.Op.move (Go.Operand.tmp 83), type := 4, pos := "law.go:83", after := #[{ on := 12, ground := Go.Ground.data }, { on := 11, ground := Go.Ground.chain }], guard := none }) (v := ?_) rfl (by kernel_rfl) (by kernel_rfl) (by kernel_rfl) (fun _ _ _ h => h) (Or.inl ⟨by rfl, ?_⟩) (by assumption) ?_
          rotate_left
          · intro w hSw; clear hSw; go_simp; try with_reducible rfl
          try simp only [Act.put, List.setIfInBounds_toArray, List.set_cons_zero, List.set_cons_succ]
          refine wpAnyH_take (i := 14) (oi := { dst := some 85, op := Go.Op.load 28 (Go.Operand.tmp 2), type := 28, pos := "law.go:83", after := #[{ on := 13, ground := Go.Ground.guard }], guard := some (13, true) }) (v := _) rfl (by kernel_rfl) (by kernel_rfl) (by kernel_rfl) (fun _ _ _ h => h) (Or.inl ⟨by rfl, fun w' hS => load_term w' _ _ _ _ _ _ _ _ _ _ _ _ _ rfl rfl hS.lt⟩) (by assumption) ?_
          try simp only [Act.put, List.setIfInBounds_toArray, List.set_cons_zero, List.set_cons_succ]
          refine wpAnyH_take (i := 16) (oi := { dst := some 87, op := Go.Op.load 28 (Go.Operand.tmp 3), type := 28, pos := "law.go:83", after := #[{ on := 13, ground := Go.Ground.guard }], guard := some (13, true) }) (v := _) rfl (by kernel_rfl) (by kernel_rfl) (by kernel_rfl) (fun _ _ _ h => h) (Or.inl ⟨by rfl, fun w' hS => load_term w' _ _ _ _ _ _ _ _ _ _ _ _ _ rfl rfl hS.lu⟩) (by assumption) ?_
          try simp only [Act.put, List.setIfInBounds_toArray, List.set_cons_zero, List.set_cons_succ]
          refine wpAnyH_take (i := 19) (oi := { dst := some 90, op := Go.Op.move (Go.Operand.tmp 13), type := 4, pos := "law.go:83", after := #[{ on := 13, ground := Go.Ground.guard }], guard := some (13, true) }) (v := ?_) rfl (by kernel_rfl) (by kernel_rfl) (by kernel_rfl) (fun _ _ _ h => h) (Or.inl ⟨by rfl, ?_⟩) (by assumption) ?_
          rotate_left
          · intro w hSw; clear hSw; go_simp; try with_reducible rfl
          try simp only [Act.put, List.setIfInBounds_toArray, List.set_cons_zero, List.set_cons_succ]
          refine wpAnyH_ready (rs := [15]) (by kernel_rfl) (by simp) ?_
          refine AllReadyH.cons (o := { dst := some 86, op := Go.Op.call { callee := Go.Callee.value (Go.Operand.func 10), args := #[Go.Operand.tmp 85], argTypes := #[28] }, type := 28, pos := "law.go:83", after := #[{ on := 14, ground := Go.Ground.data }, { on := 13, ground := Go.Ground.chain }, { on := 13, ground := Go.Ground.guard }], guard := some (13, true) }) rfl (fun K hK => ?_) AllReadyH.nil
          rw [if_pos (by rfl)]
          go_simp
          refine (hO.out _ hHeld.bl).mono ?_
          rintro e w9 ⟨v1, v2, v3, rfl, hnn, hb⟩
          have hq2 := Lib.hid hnn.tmin
          have hMM := hHeld.below hb
          clear hb hHeld hnn 
          refine hK.out _ _ hMM (fun hHeld => ?_)
          clear hK K
          try simp only [Act.put, List.setIfInBounds_toArray, List.set_cons_zero, List.set_cons_succ]
          refine wpAnyH_ready (rs := [17]) (by kernel_rfl) (by simp) ?_
          refine AllReadyH.cons (o := { dst := some 88, op := Go.Op.call { callee := Go.Callee.value (Go.Operand.func 10), args := #[Go.Operand.tmp 87], argTypes := #[28] }, type := 28, pos := "law.go:83", after := #[{ on := 16, ground := Go.Ground.data }, { on := 15, ground := Go.Ground.chain }, { on := 13, ground := Go.Ground.guard }], guard := some (13, true) }) rfl (fun K hK => ?_) AllReadyH.nil
          rw [if_pos (by rfl)]
          go_simp
          refine (hOu.out _ hHeld.bl).mono ?_
          rintro e w9 ⟨v1, v2, v3, rfl, hnn, hb⟩
          have hq3 := Lib.hid hnn.tmin
          have hq4 := Lib.hid (hq2.out.below hb)
          have hMM := hHeld.below hb
          clear hb hHeld hnn hq2
          refine hK.out _ _ hMM (fun hHeld => ?_)
          clear hK K
          try simp only [Act.put, List.setIfInBounds_toArray, List.set_cons_zero, List.set_cons_succ]
          refine wpAnyH_ready (rs := [18]) (by kernel_rfl) (by simp) ?_
          refine AllReadyH.cons (o := { dst := some 89, op := Go.Op.call { callee := Go.Callee.value (Go.Operand.func 19), args := #[Go.Operand.tmp 86, Go.Operand.tmp 88], argTypes := #[28, 28] }, type := 4, pos := "law.go:83", after := #[{ on := 15, ground := Go.Ground.data }, { on := 17, ground := Go.Ground.data }, { on := 17, ground := Go.Ground.chain }, { on := 13, ground := Go.Ground.guard }], guard := some (13, true) }) rfl (fun K hK => ?_) AllReadyH.nil
          rw [if_pos (by rfl)]
          go_simp
          refine (hSu.out _ _ _ _ _ _ _ hq4.out hq3.out).mono ?_
          rintro e w9 ⟨rfl, hb⟩
          have hMM := hHeld.below hb
          clear hb hHeld hq3 hq4
          refine hK.out _ _ hMM (fun hHeld => ?_)
          clear hK K
          try simp only [Act.put, List.setIfInBounds_toArray, List.set_cons_zero, List.set_cons_succ]
          refine wpAnyH_take (i := 20) (oi := { dst := some 91, op := Go.Op.binOp Go.BinOp.eql 4 (Go.Operand.tmp 89) (Go.Operand.tmp 90) 4, type := 4, pos := "law.go:83", after := #[{ on := 18, ground := Go.Ground.data }, { on := 19, ground := Go.Ground.data }, { on := 13, ground := Go.Ground.guard }], guard := some (13, true) }) (v := ?_) rfl (by kernel_rfl) (by kernel_rfl) (by kernel_rfl) (fun _ _ _ h => h) (Or.inl ⟨by rfl, ?_⟩) (by assumption) ?_
          rotate_left
          · intro w hSw; clear hSw; go_simp; try with_reducible rfl
          try simp only [Act.put, List.setIfInBounds_toArray, List.set_cons_zero, List.set_cons_succ]
          refine wpAnyH_take (i := 21) (oi := { dst := some 92, op := Go.Op.pick (Go.Operand.tmp 84) (Go.Operand.tmp 91) (Go.Operand.const (Go.Value.bool false)), type := 4, pos := "law.go:83", after := #[{ on := 13, ground := Go.Ground.data }, { on := 20, ground := Go.Ground.data }], guard := none }) (v := ?_) rfl (by kernel_rfl) (by kernel_rfl) (by kernel_rfl) (fun _ _ _ h => h) (Or.inl ⟨by rfl, ?_⟩) (by assumption) ?_
          rotate_left
          · intro w hSw; clear hSw; go_simp; try with_reducible rfl
          try simp only [Act.put, List.setIfInBounds_toArray, List.set_cons_zero, List.set_cons_succ]
          refine wpAnyH_take (i := 22) (oi := { dst := some 4, op := Go.Op.assign (Go.Operand.tmp 92), type := 4, pos := "law.go:83", after := #[{ on := 21, ground := Go.Ground.data }, { on := 18, ground := Go.Ground.chain }, { on := 0, ground := Go.Ground.phase }, { on := 1, ground := Go.Ground.phase }, { on := 2, ground := Go.Ground.phase }, { on := 3, ground := Go.Ground.phase }, { on := 4, ground := Go.Ground.phase }, { on := 5, ground := Go.Ground.phase }, { on := 6, ground := Go.Ground.phase }, { on := 7, ground := Go.Ground.phase }, { on := 8, ground := Go.Ground.phase }, { on := 9, ground := Go.Ground.phase }, { on := 10, ground := Go.Ground.phase }, { on := 11, ground := Go.Ground.phase }, { on := 12, ground := Go.Ground.phase }, { on := 13, ground := Go.Ground.phase }, { on := 14, ground := Go.Ground.phase }, { on := 15, ground := Go.Ground.phase }, { on := 16, ground := Go.Ground.phase }, { on := 17, ground := Go.Ground.phase }, { on := 18, ground := Go.Ground.phase }, { on := 19, ground := Go.Ground.phase }, { on := 20, ground := Go.Ground.phase }, { on := 21, ground := Go.Ground.phase }], guard := none }) (v := ?_) rfl (by kernel_rfl) (by kernel_rfl) (by kernel_rfl) (fun _ _ _ h => h) (Or.inl ⟨by rfl, ?_⟩) (by assumption) ?_
          rotate_left
          · intro w hSw; clear hSw; go_simp; try with_reducible rfl
          try simp only [Act.put, List.setIfInBounds_toArray, List.set_cons_zero, List.set_cons_succ]
          refine wpAnyH_done (by kernel_rfl) ?_ _
          have hF := hHeld
          clear hHeld
          go_wp2_with fail
          go_ret
          exact ⟨rfl, hF.bl⟩
theorem termSame_walk (t u : Tm) (w : World) (vp vi vk xp xi xk : Value) (h : TmIn w t vp vi vk) (hu : TmIn w u xp xi xk) (hB : TmBd t) (hBu : TmBd u) (hT : Tab w) :
    Calls Tryz.prog 5 #[tmv t vp vi vk, tmv u xp xi xk] w fun e w' => e = .returned (.bool true) ∧ Below w.heap.size w w' := by
  by_cases hy : TM.smt t = true ∧ TM.smt u = true ∧ TM.okt t = true
  · exact termSame_yes t u w vp vi vk xp xi xk h hu hB hBu hT hy.1 hy.2.1 hy.2.2
  · exact termSame_no same_as t u w vp vi vk xp xi xk h hu hB hT hy
end Go.Proofs.YtpiekdcbjkgipaaGreatDoor
