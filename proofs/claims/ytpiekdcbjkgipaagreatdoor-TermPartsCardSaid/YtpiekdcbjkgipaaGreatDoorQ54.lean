/- The law TermParts, walked: the main case. -/
import Derived.Test.YtpiekdcbjkgipaaGreatDoorQ53
namespace Go.Proofs.YtpiekdcbjkgipaaGreatDoor
open Go.ChangeShapes Go.WideShapes Go.ChangeAt Go.RowKit Go.Deep
open TM (Tl Tm)

theorem tparts_small {t : Tm} (h : TM.sz t.ks + 1 ≤ 4000) (w : World) (vp vi vk : Value) (hi : TmIn w t vp vi vk) :
    Calls Tryz.prog 11 #[tmv t vp vi vk] w fun e w' => e = .returned (.int .i64 ((TM.sz t.ks + 1 : Nat) : Int)) ∧ Below w.heap.size w w' := by
  have := parts_any t vp vi vk w hi
  rwa [show min (TM.sz t.ks + 1) 5000 = TM.sz t.ks + 1 by omega] at this
set_option maxRecDepth 100000 in
set_option maxHeartbeats 8000000 in
theorem termParts_yes (t : Tm) (w : World) (vp vi vk : Value) (h : TmIn w t vp vi vk) (hB : TmBd t) (hT : Tab w) (hst : TM.smt t = true) (hok : TM.okt t = true) :
    Calls Tryz.prog 6 #[tmv t vp vi vk] w fun e w' => e = .returned (.bool true) ∧ Below w.heap.size w w' := by
  obtain ⟨hsd, hsz, hpl⟩ := smt_facts hst
  have hsz4 := (TM.okt_parts hok).1
  obtain ⟨A1, c1, rfl⟩ := h.k.read
  have hA := Lib.hid (fun (w' : World) (hb : Below w.heap.size w w') => awake10_of same_as w' (hT.on hb))
  have hS := Lib.hid (fun (w' : World) (hb : Below w.heap.size w w') => tsmall_any t w' vp vi _ (h.below hb))
  have hR := Lib.hid (fun (w' : World) (hb : Below w.heap.size w w') => tright_any t w' vp vi _ (h.below hb) hB hpl)
  have hO := Lib.hid (fun (w' : World) (hb : Below w.heap.size w w') => town_any t w' vp vi _ (h.below hb) hsd (by omega))
  have hG := Lib.hid (fun (w' : World) (v1 v2 v3 : Value) (hi : TmIn w' t v1 v2 v3) => globals_any t w' v1 v2 v3 hi hB hok)
  have hPt := Lib.hid (fun (w' : World) (v1 v2 v3 : Value) (hi : TmIn w' t v1 v2 v3) => tparts_small hsz4 w' v1 v2 v3 hi)
  have hkd : ∀ i x, t.ks.at_ i = some x → TM.sd1 x = true ∧ TM.sz x.ks + 1 ≤ 4000 := fun i x hx => by
    have h1 := TM.sz_at hx
    have h2 : TM.sz (t.ks.dr i) ≤ TM.sz t.ks := TM.sz_dr t.ks i
    have h3 : TM.sdl t.ks = true := by
      have := hsd
      rw [TM.sd1, Bool.and_eq_true] at this
      exact this.2
    exact ⟨TM.sdl_in h3 hx, by omega⟩
  have hOk := Lib.hid (fun i x (hx : t.ks.at_ i = some x) (w' : World) (v1 v2 v3 : Value) (hi : TmIn w' x v1 v2 v3) => town_any x w' v1 v2 v3 hi (hkd i x hx).1 (by have := (hkd i x hx).2; omega))
  have hPk := Lib.hid (fun i x (hx : t.ks.at_ i = some x) (w' : World) (v1 v2 v3 : Value) (hi : TmIn w' x v1 v2 v3) => tparts_small (hkd i x hx).2 w' v1 v2 v3 hi)
  have hGk := Lib.hid (fun i x (hx : t.ks.at_ i = some x) (w' : World) (v1 v2 v3 : Value) (hi : TmIn w' x v1 v2 v3) => rglobals_any x w' v1 v2 v3 hi (by have := (hkd i x hx).2; omega))
  have hsh := Lib.hid (TM.gl1_short hok)
  rw [hst] at hS
  rw [hok] at hR
  have hlen := h.k.len
  have hTk := h.k
  obtain ⟨N, hN⟩ : ∃ N, t.ks.len = N := ⟨_, rfl⟩
  obtain ⟨S, hSe⟩ : ∃ S : ByteArray, (⟨t.s.toArray⟩ : ByteArray) = S := ⟨_, rfl⟩
  have hSd : S.data.toList = t.s := by rw [← hSe]
  obtain ⟨b, hb⟩ : ∃ b, S.toList.isEmpty = b := ⟨_, rfl⟩
  have hbs : b = true ↔ t.s = [] := by rw [← hb, ByteArray.toList_eq, hSd, List.isEmpty_iff]
  obtain ⟨o0, ho0⟩ : ∃ o0, (if t.s = [] then ([] : List (List UInt8)) else [t.s]) = o0 := ⟨_, rfl⟩
  have hyes := Lib.hid (show b = true → o0 = [] from fun h => by rw [← ho0, if_pos (hbs.1 h)])
  have hno := Lib.hid (show b = false → o0 = [S.data.toList] from fun h => by rw [← ho0, if_neg (fun e => by rw [hbs.2 e] at h; cases h), hSd])
  have hg1 : TM.gl1 t = o0 ++ TM.gls t.ks := by rw [← ho0]; rfl
  have hK0 := Lib.hid (show TM.Kst t o0 (TM.gls (t.ks.dr 0)) by
    rw [Tl.dr_zero]
    exact ⟨fun x => by rw [hg1, List.mem_append], by rw [hg1, List.length_append]; exact Nat.le_refl _⟩)
  have hgl := Lib.hid (show (TM.gl1 t).length ≤ 5001 by
    have h1 := TM.gls_len t.ks
    rw [hg1, List.length_append, ← ho0]
    split <;> (try simp) <;> omega)
  have hSm := Lib.hid (show b = false → S.size ≤ maxLen from fun h => by
    have h1 : o0 = [S.data.toList] := hno.out h
    have h2 := hsh.out S.data.toList (by rw [hg1, h1]; simp)
    have h3 : S.size = S.data.toList.length := by show S.data.size = _; rw [Array.length_toList]
    unfold maxLen
    omega)
  have hmm := @run_makeMap Tryz.prog
  rw [hN] at hlen hTk
  unfold tmv at hS hR hO hG hPt hOk hPk hGk
  unfold tmv
  rw [hN, hSe] at hS hR hO
  rw [hN, hSe]
  simp only [hSe] at hG hPt
  obtain ⟨Q, hQ⟩ : ∃ Q, TM.sz t.ks + 1 = Q := ⟨_, rfl⟩
  rw [hQ] at hPt hsz4
  have hQ' := Lib.hid hQ
  have hN' := Lib.hid hN
  have hTk' := Lib.hid hTk
  have hL' := Lib.hid (Lies.made w 28 #[.int .i64 t.k, .int .i64 t.n, .string S, vp, .int .i64 t.d.k, .int .i64 t.d.n, .string ⟨t.d.s.toArray⟩, vi, .slice A1 N c1])
  have hb0' := Lib.hid (show Below w.heap.size w (w.alloc (.cells #[.int .i64 t.k, .int .i64 t.n, .string S, vp, .int .i64 t.d.k, .int .i64 t.d.n, .string ⟨t.d.s.toArray⟩, vi, .slice A1 N c1] 28)) from (Below.refl _ w).alloc (Nat.le_refl _) _)
  clear h hB hT hst hok hsd hsz hpl hkd hN hSe hSd hbs ho0 hg1 hTk hQ
  go_enter Tryz.func6, Tryz.ntmps6
  go_upto_if 28 with (first
    | (go_at_call 7
       with_reducible refine (hA.out _ hb0'.out).mono ?_
       rintro e w1 ⟨rfl, hb1⟩
       have hM1 := Lib.hid (hL'.out.below hb1 hL'.out.lt)
       have c1' := Lib.hid (hb0'.out.trans (Below.mono hb1 hb0'.out.size))
       have z0 := hM1.out.cell 0
       have z1 := hM1.out.cell 1
       have z2 := hM1.out.cell 2
       have z3 := hM1.out.cell 3
       have z4 := hM1.out.cell 4
       have z5 := hM1.out.cell 5
       have z6 := hM1.out.cell 6
       have z7 := hM1.out.cell 7
       have z8 := hM1.out.cell 8
       simp only [List.getElem?_cons_succ, List.getElem?_cons_zero] at z0 z1 z2 z3 z4 z5 z6 z7 z8
       clear hb1)
    | (go_at_call 8
       with_reducible refine (hS.out _ c1'.out).mono ?_
       rintro e w2 ⟨rfl, hb2⟩
       have hM2 := Lib.hid (hM1.out.below hb2 hM1.out.lt)
       have c2 := Lib.hid (c1'.out.trans (Below.mono hb2 c1'.out.size))
       have y0 := hM2.out.cell 0
       have y1 := hM2.out.cell 1
       have y2 := hM2.out.cell 2
       have y3 := hM2.out.cell 3
       have y4 := hM2.out.cell 4
       have y5 := hM2.out.cell 5
       have y6 := hM2.out.cell 6
       have y7 := hM2.out.cell 7
       have y8 := hM2.out.cell 8
       simp only [List.getElem?_cons_succ, List.getElem?_cons_zero] at y0 y1 y2 y3 y4 y5 y6 y7 y8
       clear hb2 z0 z1 z2 z3 z4 z5 z6 z7 z8)
    | (go_at_call 13
       refine (hR.out _ c2.out).mono ?_
       rintro e w4 ⟨rfl, hb4⟩
       have hM4 := hM2.out.below hb4 hM2.out.lt
       have c4 := c2.out.trans (Below.mono hb4 c2.out.size)
       have hM5 := Lib.hid (hM4.alloc (.map #[] 0))
       have c5 := Lib.hid (c4.alloc c4.size (.map #[] 0))
       have hC5 := Lib.hid (Cm.made w4)
       have q2 : (w4.alloc (.map #[] 0)).cell? ⟨w.heap.size, 2, none⟩ = some (.string S) := hM5.out.cell 2
       have hq5 := Lib.hid c4.size
       clear hb4 hM4 c4 y0 y1 y2 y3 y4 y5 y6 y7 y8))
  obtain ⟨q, hq⟩ : ∃ q, w4.heap.size = q := ⟨_, rfl⟩
  obtain ⟨W5, hW5⟩ : ∃ W5, w4.alloc (.map #[] 0) = W5 := ⟨_, rfl⟩
  rw [hW5] at hM5 c5 hC5 q2
  rw [hq] at hC5 hq5
  rw [hW5, hq]
  clear hS hR hA hM1 hM2 c1' c2 hL' hb0' hW5 hq hmm
  go_cut [3] from 29 to 33 (fun s3 wx => s3 = .int .i64 1 ∧ Hid (Cm wx q o0) ∧ Below w.heap.size w wx ∧ Lies wx w.heap.size 28 [.int .i64 t.k, .int .i64 t.n, .string S, vp, .int .i64 t.d.k, .int .i64 t.d.n, .string ⟨t.d.s.toArray⟩, vi, .slice A1 N c1])
  case first =>
    cases b
    · have ho := hno.out rfl
      subst ho
      have hn0 : ((([] : List (List UInt8)).count S.data.toList : Nat) : Int) = 0 := by rw [List.count_nil]; rfl
      have hlk := hC5.out.look (hSm.out rfl)
      obtain ⟨w6, hrun, hC6, hT6⟩ := hC5.out.put (by simp) (hSm.out rfl)
      rw [hn0] at hlk hrun
      rw [Int.zero_add] at hrun
      have hC6' := Lib.hid hC6
      have hne : ¬ w.heap.size = q := fun e => hC5.out.apart hM5.out e.symm
      have hM6 := Lib.hid (hM5.out.turns hT6 hne)
      have hb6 := Lib.hid (c5.out.trans (hT6.below c5.out.size (fun g hg => by have := hq5.out; omega)))
      clear hn0 hC6 hT6 hne
      go_wp2_with fail
      go_meet
      case rel => exact ⟨rfl, hC6', hb6.out, hM6.out⟩
    · have ho := hyes.out rfl
      subst ho
      go_wp2_with fail
      go_meet
      case rel => exact ⟨rfl, hC5, c5.out, hM5.out⟩
  case rest =>
    obtain ⟨rfl, hC0, hb0, hM0⟩ := hcut
    have hw0 := hb0.size
    have hltQ := Lib.hid hC0.out.lt
    have hS0 := Lib.hid (show (1 : Nat) + TM.sz (t.ks.dr 0) = Q by rw [Tl.dr_zero, ← hQ'.out]; omega)
    clear hC5 c5 hM5 hyes hno hSm q2
    have y8 : wc.cell? ⟨w.heap.size, 8, none⟩ = some (.slice A1 N c1) := hM0.cell 8
    go_upto_block 0 with fail
    go_cut [3, 6, 8] from 37 to 58 (fun s3 _ _ wx => s3 = .int .i64 (Q : Nat) ∧ (∃ W, Hid (Cm wx q W ∧ TM.Kst t W [])) ∧ Below w.heap.size w wx ∧ Lies wx w.heap.size 28 [.int .i64 t.k, .int .i64 t.n, .string S, vp, .int .i64 t.d.k, .int .i64 t.d.n, .string ⟨t.d.s.toArray⟩, vi, .slice A1 N c1])
    case first =>
      go_wp2_with fail
      go_loopw [3, 37] (fun v i wr => ∃ (j nn : Nat) (W : List (List UInt8)), j ≤ N ∧ i = .int .i64 j ∧ v = .int .i64 nn ∧ Hid (nn + TM.sz (t.ks.dr j) = Q) ∧ Hid (Cm wr q W ∧ TM.Kst t W (TM.gls (t.ks.dr j))) ∧ Below w.heap.size w wr ∧ Lies wr w.heap.size 28 [.int .i64 t.k, .int .i64 t.n, .string S, vp, .int .i64 t.d.k, .int .i64 t.d.n, .string ⟨t.d.s.toArray⟩, vi, .slice A1 N c1]) (fun _ i _ => N - (intOf i).toNat)
      case atStart => exact ⟨0, 1, o0, Nat.zero_le _, rfl, rfl, hS0, ⟨hC0.out, hK0.out⟩, hb0, hM0⟩
      case round =>
        obtain ⟨w1, hw1⟩ : ∃ x, x = wr := ⟨_, rfl⟩
        subst hw1
        obtain ⟨j, nn, W, hj, rfl, rfl, hns, hCK, hb, hM1⟩ := hrel
        clear hC0 hb0 hM0 hS0 y8
        by_cases hlt : j < N
        · obtain ⟨x, hx⟩ := t.ks.at_some j (by rw [hN'.out]; exact hlt)
          obtain ⟨b5, o5, P5, p5, I5, q5, K5, r5, rfl, hb05, p0, p1, p2, pp, p4, p55, p6, pi, pk, hT5⟩ := (hTk'.out.below hb).at_ hx
          have hOx := Lib.hid (hOk.out j x hx)
          have hPx := Lib.hid (hPk.out j x hx)
          have hGx := Lib.hid (hGk.out j x hx)
          obtain ⟨G, hGe⟩ : ∃ G, TM.gset x = G := ⟨_, rfl⟩
          obtain ⟨R, hRe⟩ : ∃ R, TM.gls (t.ks.dr (j + 1)) = R := ⟨_, rfl⟩
          obtain ⟨P, hPe⟩ : ∃ P, TM.sz x.ks + 1 = P := ⟨_, rfl⟩
          have hK1 := hCK.out.2
          rw [TM.gls_at hx, hRe] at hK1
          have hK2 := hK1.set
          rw [hGe] at hK2 hGx
          rw [hPe] at hPx
          have hns2 : nn + P + TM.sz (t.ks.dr (j + 1)) = Q := by
            have h1 := hns.out
            rw [TM.sz_at hx] at h1
            omega
          have hnP : nn + P ≤ 4000 := by omega
          have hns2' := Lib.hid hns2
          have hRe' := Lib.hid hRe
          obtain ⟨M, hM⟩ : ∃ M, G.length = M := ⟨_, rfl⟩
          have hM' := Lib.hid hM
          have hMl : M ≤ 5001 := by
            have h1 := hK2.2
            rw [List.length_append, hM] at h1
            have := hgl.out
            omega
          have hCK2 := Lib.hid (And.intro hCK.out.1 hK2)
          have hT5' := Lib.hid hT5
          have hbw := Lib.hid hb
          have hM1' := Lib.hid hM1
          have hcq := Lib.hid hM1.lt
          clear hx hGe hRe hPe hM hK1 hK2 hCK hT5 hns hns2
          have y8 : w1.cell? ⟨w.heap.size, 8, none⟩ = some (.slice (some ⟨b5, o5, none⟩) N c1) := hM1.cell 8
          go_upto_block 1 with fail
          go_cut [3, 6, 8] from 39 to 57 (fun s3 _ _ wx => s3 = .int .i64 ((nn : Int) + (P : Int)) ∧ (∃ W', Hid (Cm wx q W' ∧ TM.Kst t W' R)) ∧ Below w.heap.size w wx ∧ Lies wx w.heap.size 28 [.int .i64 t.k, .int .i64 t.n, .string S, vp, .int .i64 t.d.k, .int .i64 t.d.n, .string ⟨t.d.s.toArray⟩, vi, .slice (some ⟨b5, o5, none⟩) N c1])
          case first =>
            go_upto_region 10 with fail
            have hlx := Lies.made w1 28 #[.int .i64 x.k, .int .i64 x.n, .string ⟨x.s.toArray⟩, .slice P5 x.ps.length p5, .int .i64 x.d.k, .int .i64 x.d.n, .string ⟨x.d.s.toArray⟩, .slice I5 x.d.is.len q5, .slice K5 x.ks.len r5]
            have hbx : Below w1.heap.size w1 (w1.alloc (.cells #[.int .i64 x.k, .int .i64 x.n, .string ⟨x.s.toArray⟩, .slice P5 x.ps.length p5, .int .i64 x.d.k, .int .i64 x.d.n, .string ⟨x.d.s.toArray⟩, .slice I5 x.d.is.len q5, .slice K5 x.ks.len r5] 28)) := (Below.refl _ w1).alloc (Nat.le_refl _) _
            obtain ⟨w2, hwx⟩ : ∃ W, w1.alloc (.cells #[.int .i64 x.k, .int .i64 x.n, .string ⟨x.s.toArray⟩, .slice P5 x.ps.length p5, .int .i64 x.d.k, .int .i64 x.d.n, .string ⟨x.d.s.toArray⟩, .slice I5 x.d.is.len q5, .slice K5 x.ks.len r5] 28) = W := ⟨_, rfl⟩
            rw [hwx] at hlx hbx ⊢
            have hM2 := Lib.hid (hM1'.out.below hbx hM1'.out.lt)
            have hC2 := Lib.hid (hCK2.out.1.below hbx)
            have hT2 := Lib.hid (hT5'.out.below hbx)
            have c2 := Lib.hid (hbw.out.trans (Below.mono hbx hbw.out.size))
            have hk2 := Lib.hid hlx
            obtain ⟨g6, hgx⟩ : ∃ g, w1.heap.size = g := ⟨_, rfl⟩
            rw [hgx] at hk2 ⊢
            clear hwx hlx hbx hgx p0 p1 p2 pp p4 p55 p6 pi pk y8 hT5' hM1' hbw
            have z0 := hk2.out.cell 0
            have z1 := hk2.out.cell 1
            have z2 := hk2.out.cell 2
            have z3 := hk2.out.cell 3
            have z4 := hk2.out.cell 4
            have z5 := hk2.out.cell 5
            have z6 := hk2.out.cell 6
            have z7 := hk2.out.cell 7
            have z8 := hk2.out.cell 8
            simp only [List.getElem?_cons_succ, List.getElem?_cons_zero] at z0 z1 z2 z3 z4 z5 z6 z7 z8
            go_wp2_with (first
              | (go_at_call 10
                 refine (hOx.out _ _ _ _ hT2.out).mono ?_
                 rintro e w6 ⟨v1, v2, v3, rfl, hn6, hb6⟩
                 have hv6 := Lib.hid hn6.tmin
                 have hM6 := Lib.hid (hM2.out.below hb6 hM2.out.lt)
                 have hk6 := Lib.hid (hk2.out.below hb6 hk2.out.lt)
                 have hC6 := Lib.hid (hC2.out.below hb6)
                 have hT6 := Lib.hid (hT2.out.below hb6)
                 have c6 := Lib.hid (c2.out.trans (Below.mono hb6 c2.out.size))
                 clear hn6 hb6 hM2 hk2 hC2 hT2 c2 z0 z1 z2 z3 z4 z5 z6 z7 z8)
              | (go_at_call 11
                 refine (hPx.out _ _ _ _ hv6.out).mono ?_
                 rintro e w7 ⟨rfl, hb7⟩
                 have hM7 := Lib.hid (hM6.out.below hb7 hM6.out.lt)
                 have hk7 := Lib.hid (hk6.out.below hb7 hk6.out.lt)
                 have hC7 := Lib.hid (hC6.out.below hb7)
                 have hT7 := Lib.hid (hT6.out.below hb7)
                 have c7 := Lib.hid (c6.out.trans (Below.mono hb7 c6.out.size))
                 have y0 := hk7.out.cell 0
                 have y1 := hk7.out.cell 1
                 have y2 := hk7.out.cell 2
                 have y3 := hk7.out.cell 3
                 have y4 := hk7.out.cell 4
                 have y5 := hk7.out.cell 5
                 have y6 := hk7.out.cell 6
                 have y7 := hk7.out.cell 7
                 have y8 := hk7.out.cell 8
                 simp only [List.getElem?_cons_succ, List.getElem?_cons_zero] at y0 y1 y2 y3 y4 y5 y6 y7 y8
                 clear hb7 hv6 hM6 hk6 hC6 hT6 c6)
              | (go_at_call 20
                 refine (hGx.out _ _ _ _ hT7.out).mono ?_
                 rintro e w8 ⟨v8, rfl, hr8, hb8⟩
                 have hr8' := hr8
                 obtain ⟨A8, c8', rfl, -⟩ := own_read hr8
                 rw [hM'.out]
                 have hr8 := Lib.hid (show OwnStr w8 w7.heap.size (.slice A8 M c8') G by have := hr8'; rwa [hM'.out] at this)
                 have hq7 := Lib.hid hC7.out.lt
                 have hM8 := Lib.hid (hM7.out.below hb8 hM7.out.lt)
                 have hk8 := Lib.hid (hk7.out.below hb8 hk7.out.lt)
                 have hC8 := Lib.hid (hC7.out.below hb8)
                 have hT8 := Lib.hid (hT7.out.below hb8)
                 have c8 := Lib.hid (c7.out.trans (Below.mono hb8 c7.out.size))
                 clear hr8' hb8 y0 y1 y2 y3 y4 y5 y6 y7 y8))
            go_loopw [49] (fun i wr => ∃ (kk : Nat) (Wk : List (List UInt8)), kk ≤ M ∧ i = .int .i64 kk ∧ Hid (Cm wr q Wk ∧ TM.Kst t Wk (G.drop kk ++ R)) ∧ Turns (fun g => g = q) w8 wr) (fun i _ => M - (intOf i).toNat)
            case atStart => exact ⟨0, W, Nat.zero_le _, rfl, ⟨hC8.out, by simpa using hCK2.out.2⟩, Turns.refl _ _⟩
            case round =>
              obtain ⟨w3, hw3⟩ : ∃ x, x = wr := ⟨_, rfl⟩
              subst hw3
              obtain ⟨kk, Wk, hkk, rfl, hCk, hT3⟩ := hrel
              by_cases hl3 : kk < M
              · obtain ⟨s2, hs2⟩ : ∃ s2, G[kk]? = some s2 := ⟨_, List.getElem?_eq_getElem (by rw [hM'.out]; exact hl3)⟩
                have hr3 : OwnStr w3 w7.heap.size (.slice A8 M c8') G := own_turns hr8.out hT3 (fun g hg e => by have := (World.ownsRow.lt hr8.out g hg).1; have := hq7.out; omega)
                obtain ⟨g8, c9, hv8, hg8, q8'⟩ := hr3.at_ hs2
                rw [hM'.out] at hv8
                cases hv8
                have hdr : G.drop kk = s2 :: G.drop (kk + 1) := by
                  rw [List.drop_eq_getElem_cons (by rw [hM'.out]; exact hl3)]
                  congr 1
                  exact (List.getElem?_eq_some_iff.1 hs2).2
                have hK3 : TM.Kst t Wk (s2 :: (G.drop (kk + 1) ++ R)) := by have := hCk.out.2; rwa [hdr] at this
                obtain ⟨S2, hS2⟩ : ∃ S2 : ByteArray, (⟨s2.toArray⟩ : ByteArray) = S2 := ⟨_, rfl⟩
                have hSd2 : S2.data.toList = s2 := by rw [← hS2]
                have hz2 : S2.size ≤ maxLen := by
                  have h1 := hsh.out s2 ((hK3.1 s2).2 (.inr (by simp)))
                  have h2 : S2.size = S2.data.toList.length := by show S2.data.size = _; rw [Array.length_toList]
                  rw [hSd2] at h2
                  unfold maxLen
                  omega
                have q8 : w3.cell? ⟨g8, kk, none⟩ = some (.string S2) := by rw [← hS2]; exact q8'
                have hWl : Wk.length ≤ 5001 := by
                  have h1 := hK3.2
                  have := hgl.out
                  omega
                obtain ⟨n0, hn0⟩ : ∃ n0 : Int, ((Wk.count S2.data.toList : Nat) : Int) = n0 := ⟨_, rfl⟩
                have hn1 : 0 ≤ n0 ∧ n0 ≤ 1000000 := by
                  have := List.count_le_length (a := S2.data.toList) (l := Wk)
                  omega
                have hn2 := hn1.1
                have hn3 := hn1.2
                have hlk := hCk.out.1.look hz2
                obtain ⟨w9, hrun, hC9, hT9⟩ := hCk.out.1.put (by omega) hz2
                rw [hn0] at hlk hrun
                rw [hSd2] at hC9
                have hK9 := Lib.hid (And.intro hC9 hK3.step)
                have hT10 := Lib.hid (hT3.trans hT9)
                clear hs2 hr3 q8' hdr hK3 hS2 hSd2 hz2 hWl hn0 hC9 hT9 hCk hT3
                go_wp2_with fail
                go_roundw
                case rel => exact ⟨kk + 1, _, by omega, by go_num, hK9, hT10.out⟩
                case measure => simp [intOf]; omega
              · obtain rfl : kk = M := by omega
                have hKR : TM.Kst t Wk R := by have := hCk.out.2; rwa [← hM'.out, List.drop_length, List.nil_append] at this
                have hCK9 := Lib.hid (And.intro hCk.out.1 hKR)
                have hb9 := Lib.hid (c8.out.trans (hT3.below c8.out.size (fun g hg => by have := hq5.out; omega)))
                have hM9 := Lib.hid (hM8.out.turns hT3 (fun e => hC8.out.apart hM8.out e.symm))
                clear hKR hCk hT3
                go_wp2_with fail
                go_meet
                case rel => exact ⟨rfl, ⟨Wk, hCK9⟩, hb9.out, hM9.out⟩
          case rest =>
            obtain ⟨rfl, ⟨W', hCK'⟩, hb', hM2⟩ := hcut
            have hCK3 := Lib.hid (show Cm wc q W' ∧ TM.Kst t W' (TM.gls (t.ks.dr (j + 1))) by rw [hRe'.out]; exact hCK'.out)
            clear hCK'
            go_wp2_with fail
            go_roundw
            case rel => exact ⟨j + 1, nn + P, W', by omega, by go_num, by rw [Int.natCast_add], hns2', hCK3, hb', hM2⟩
            case measure => simp [intOf]; omega
        · obtain rfl : j = N := by omega
          have hK2 := hCK.out.2
          rw [Tl.dr_end t.ks j (by rw [hN'.out]; exact Nat.le_refl _), show TM.gls Tl.nil = [] from rfl] at hK2
          have hn2 := hns.out
          rw [Tl.dr_end t.ks j (by rw [hN'.out]; exact Nat.le_refl _), show TM.sz Tl.nil = 0 from rfl, Nat.add_zero] at hn2
          subst hn2
          have hCK2 := Lib.hid (And.intro hCK.out.1 hK2)
          clear hK2 hCK
          go_wp2_with fail
          go_meet
          case rel => exact ⟨rfl, ⟨W, hCK2⟩, hb, hM1⟩
    case rest =>
      obtain ⟨rfl, ⟨W, hCK⟩, hbc, hMc⟩ := hcut
      obtain ⟨L, hLe⟩ : ∃ L, TM.gset t = L := ⟨_, rfl⟩
      have hRi := Lib.hid (show TM.Rise L from hLe ▸ TM.gset_rise t)
      have hmem := Lib.hid (show ∀ x, x ∈ L ↔ x ∈ W from fun x => by rw [← hLe, TM.gset_mem, hCK.out.2.1]; simp)
      have hWl := Lib.hid (show W.length ≤ 5001 by
        have h1 := hCK.out.2.2
        have := hgl.out
        rw [List.length_nil] at h1
        omega)
      have hshL := Lib.hid (show ∀ x ∈ L, x.length ≤ 60 from fun x hx => hsh.out x (by rwa [← hLe, TM.gset_mem] at hx))
      have hLl := TM.gset_le t
      rw [hLe] at hG hLl
      obtain ⟨m, hm⟩ : ∃ m, L.length = m := ⟨_, rfl⟩
      have hm' := Lib.hid hm
      have hmb : m ≤ 5001 := by have := hgl.out; omega
      have hM5 := Lib.hid hMc
      have hC5 := Lib.hid hCK.out.1
      have c5 := Lib.hid hbc
      clear hCK hbc hMc hLe hLl hm hb0 hM0 hC0 y8 hS0 hOk hPk hGk
      have z0 := hM5.out.cell 0
      have z1 := hM5.out.cell 1
      have z2 := hM5.out.cell 2
      have z3 := hM5.out.cell 3
      have z4 := hM5.out.cell 4
      have z5 := hM5.out.cell 5
      have z6 := hM5.out.cell 6
      have z7 := hM5.out.cell 7
      have z8 := hM5.out.cell 8
      simp only [List.getElem?_cons_succ, List.getElem?_cons_zero] at z0 z1 z2 z3 z4 z5 z6 z7 z8
      go_wp2_with (first
        | (go_at_call 10
           refine (hO.out _ c5.out).mono ?_
           rintro e w6 ⟨v1, v2, v3, rfl, hn6, hb6⟩
           have hv6 := Lib.hid hn6.tmin
           have hM6 := Lib.hid (hM5.out.below hb6 hM5.out.lt)
           have hC6 := Lib.hid (hC5.out.below hb6)
           have c6 := Lib.hid (c5.out.trans (Below.mono hb6 c5.out.size))
           clear hn6 hb6 hM5 hC5 c5 z0 z1 z2 z3 z4 z5 z6 z7 z8)
        | (go_at_call 17
           refine (hG.out _ _ _ _ hv6.out).mono ?_
           rintro e w7 ⟨v7, rfl, hr7, hb7⟩
           obtain ⟨A7, c7', rfl, -⟩ := own_read hr7
           have hr7' := Lib.hid (show OwnStr w7 w6.heap.size (.slice A7 m c7') L by rw [← hm'.out]; exact hr7)
           rw [hm'.out]
           have hM7 := Lib.hid (hM6.out.below hb7 hM6.out.lt)
           have hC7 := Lib.hid (hC6.out.below hb7)
           have c7 := Lib.hid (c6.out.trans (Below.mono hb7 c6.out.size))
           clear hr7 hb7 hv6 hM6 hC6 c6))
      go_loop [64] (fun i => ∃ a : Nat, a ≤ m ∧ i = .int .i64 a) (fun i => m - (intOf i).toNat)
      case atStart => exact ⟨0, Nat.zero_le _, rfl⟩
      case round =>
        obtain ⟨a, ha, rfl⟩ := hrel
        by_cases hlt : a < m
        · obtain ⟨s3, hs3⟩ : ∃ s3, L[a]? = some s3 := ⟨_, List.getElem?_eq_getElem (by rw [hm'.out]; exact hlt)⟩
          obtain ⟨g7, c9, hv7, hg7, q7'⟩ := hr7'.out.at_ hs3
          rw [hm'.out] at hv7
          cases hv7
          obtain ⟨S3, hS3⟩ : ∃ S3 : ByteArray, (⟨s3.toArray⟩ : ByteArray) = S3 := ⟨_, rfl⟩
          have hSd3 : S3.data.toList = s3 := by rw [← hS3]
          have hz3 : S3.size ≤ maxLen := by
            have h1 := hshL.out s3 (List.mem_of_getElem? hs3)
            have h2 : S3.size = S3.data.toList.length := by show S3.data.size = _; rw [Array.length_toList]
            rw [hSd3] at h2
            unfold maxLen
            omega
          have q7 : w7.cell? ⟨g7, a, none⟩ = some (.string S3) := by rw [← hS3]; exact q7'
          obtain ⟨n0, hn0⟩ : ∃ n0 : Int, ((W.count S3.data.toList : Nat) : Int) = n0 := ⟨_, rfl⟩
          have hn1 : 1 ≤ n0 := by
            have : 0 < W.count S3.data.toList := List.count_pos_iff.2 (by rw [hSd3]; exact (hmem.out s3).1 (List.mem_of_getElem? hs3))
            omega
          have hn2 : (n0 == 0) = false := by rw [beq_eq_false_iff_ne]; omega
          have hn3 : ¬ n0 = 0 := by omega
          have hlk := hC7.out.look hz3
          rw [hn0] at hlk
          by_cases h0 : a = 0
          · subst h0
            clear hs3 q7' hS3 hSd3 hz3 hn0
            go_wp2_with fail
            go_round
            case rel => exact ⟨1, by omega, by go_num⟩
            case measure => simp [intOf]; omega
          · obtain ⟨a2, rfl⟩ : ∃ a2, a = a2 + 1 := ⟨a - 1, by omega⟩
            obtain ⟨x3, hx3⟩ : ∃ x3, L[a2]? = some x3 := ⟨_, List.getElem?_eq_getElem (by rw [hm'.out]; omega)⟩
            obtain ⟨g8, c8, hv8, hg8, r7'⟩ := hr7'.out.at_ hx3
            rw [hm'.out] at hv8
            cases hv8
            obtain ⟨X3, hX3⟩ : ∃ X3 : ByteArray, (⟨x3.toArray⟩ : ByteArray) = X3 := ⟨_, rfl⟩
            have r7 : w7.cell? ⟨g7, a2, none⟩ = some (.string X3) := by rw [← hX3]; exact r7'
            have hlt3 : x3 < s3 := by
              have h1 := List.getElem?_eq_some_iff.1 hx3
              have h2 := List.getElem?_eq_some_iff.1 hs3
              obtain ⟨i1, e1⟩ := h1
              obtain ⟨i2, e2⟩ := h2
              rw [← e1, ← e2]
              exact List.pairwise_iff_getElem.1 hRi.out a2 (a2 + 1) i1 i2 (by omega)
            have hcmp : Op.bytesLess X3.toList S3.toList = true := by rw [less_of hX3 hS3]; simp [hlt3]
            clear hs3 q7' hS3 hSd3 hz3 hn0 hx3 r7' hX3 hlt3
            have hge : (binOp .geq 9 (.string X3) (.string S3)).run Tryz.prog w7 = .ok (.bool false) w7 := by simp [binOp, Op.stringOp, hcmp]
            have hps : (0 : Int) < (a2 : Int) + 1 := by omega
            have hsb : (a2 : Int) + 1 - 1 = (a2 : Int) := by omega
            go_wp2_with fail
            go_round
            case rel => exact ⟨a2 + 2, by omega, by go_num⟩
            case measure => simp [intOf]; omega
        · obtain rfl : a = m := by omega
          have y0 := hM7.out.cell 0
          have y1 := hM7.out.cell 1
          have y2 := hM7.out.cell 2
          have y3 := hM7.out.cell 3
          have y4 := hM7.out.cell 4
          have y5 := hM7.out.cell 5
          have y6 := hM7.out.cell 6
          have y7 := hM7.out.cell 7
          have y8 := hM7.out.cell 8
          simp only [List.getElem?_cons_succ, List.getElem?_cons_zero] at y0 y1 y2 y3 y4 y5 y6 y7 y8
          have hmq := hm'.out
          go_wp2_with (first
            | (go_at_call 10
               refine (hO.out _ c7.out).mono ?_
               rintro e w8 ⟨v4, v5, v6, rfl, hn8, hb8⟩
               have hv8 := Lib.hid hn8.tmin
               have hM8 := Lib.hid (hM7.out.below hb8 hM7.out.lt)
               have hC8 := Lib.hid (hC7.out.below hb8)
               have c8 := Lib.hid (c7.out.trans (Below.mono hb8 c7.out.size))
               clear hn8 hb8 hM7 hC7 c7 y0 y1 y2 y3 y4 y5 y6 y7 y8)
            | (go_at_call 11
               refine (hPt.out _ _ _ _ hv8.out).mono ?_
               rintro e w9 ⟨rfl, hb9⟩
               have hM9 := Lib.hid (hM8.out.below hb9 hM8.out.lt)
               have hC9 := Lib.hid (hC8.out.below hb9)
               have c9 := Lib.hid (c8.out.trans (Below.mono hb9 c8.out.size))
               have hln : ∀ ty, (Builtin.len_ #[48] ty #[.map (some q)]).run Tryz.prog w9 = .ok (.int .i64 a) w9 := fun ty => by
                 have := hC9.out.len hRi.out hmem.out ty
                 rwa [hmq] at this
               clear hb9 hv8 hM8 hC8 c8))
          go_ret
          exact ⟨rfl, c9.out⟩
theorem termParts_walk (t : Tm) (w : World) (vp vi vk : Value) (h : TmIn w t vp vi vk) (hB : TmBd t) (hT : Tab w) :
    Calls Tryz.prog 6 #[tmv t vp vi vk] w fun e w' => e = .returned (.bool true) ∧ Below w.heap.size w w' := by
  by_cases hy : TM.smt t = true ∧ TM.okt t = true
  · exact termParts_yes t w vp vi vk h hB hT hy.1 hy.2
  · exact termParts_no t w vp vi vk h hB hT hy
end Go.Proofs.YtpiekdcbjkgipaaGreatDoor
