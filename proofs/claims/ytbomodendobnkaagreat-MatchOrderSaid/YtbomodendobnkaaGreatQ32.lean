/- Package match: matchesRow; the closure. -/
import Derived.Test.YtbomodendobnkaaGreatQ31
namespace Go.Proofs.YtbomodendobnkaaGreat
open Go.ChangeShapes Go.WideShapes Go.ChangeAt Go.RowKit Go.Deep
open MM (Bl Bm Var)

section
variable (w0 : World) (b16 b19 b7 b8 b10 q m : Nat) (tv : Value) (ta tf : Int) (n : MM.NM) (Q : List UInt8 → List UInt8 → Bool)
set_option maxRecDepth 100000 in
set_option maxHeartbeats 8000000 in
theorem mrow_any (hN : Nm w0 q m n) (f : Nat) (hM : MOk w0 b16 b19 b7 b8 b10 n Q f) (w : World) (x : RM.Dm) (u : Value) (y : RM.Dm) (v : Value) (hb : Below w0.heap.size w0 w) (hp : Pt w0 (f + 1) x u) (hv : Cn w v y.is) (hy : Db y) :
    Calls Tryz.prog 21 #[.map (some q), dtv x u, dtv y v, clv b16 b19 b7 b8 b10] w (BoolN (MM.mtr (MM.mt n Q f) n x y) w) := by
  obtain ⟨A, cA, rfl⟩ := hp.v.read
  obtain ⟨B, cB, rfl⟩ := hv.read
  have hRow := Lib.hid (fun (w' : World) (hb' : Below w0.heap.size w0 w') => row_any w0 w' hb' q m n x _ (hN.below hb') hp.v hp.b)
  have hpi := Lib.hid (fun (j i : Nat) (z : RM.Dm) (a : Value) (hz : ((MM.rowp n x).part j).at_ i = some z) (ha : Cn w0 a z.is) => (show Pt w0 f z a from by
    obtain ⟨k, hk⟩ := part_in n x hz
    exact hp.in_ hk ha))
  obtain ⟨R, hR⟩ : ∃ R, MM.mtr (MM.mt n Q f) n x y = R := ⟨_, rfl⟩
  rw [hR]
  unfold MM.mtr at hR
  obtain ⟨r, hr⟩ : ∃ r, MM.rowp n x = r := ⟨_, rfl⟩
  rw [hr] at hRow hR hpi
  have hLay := Lib.hid (fun (w' : World) a b c d (hb' : Below w.heap.size w w') (h : RowAt w' r a b c d) => lay_any w' r a b c d x.k y _ h (hv.below hb'))
  have hdb := Lib.hid (fun j i z h => lay_db r x.k j y hy i z h)
  obtain ⟨⟨L, ok⟩, hL⟩ : ∃ L, MM.lay r x.k y = L := ⟨_, rfl⟩
  rw [hL] at hR hLay hdb
  have hE := Lib.hid (fun (w' : World) (hb' : Below w0.heap.size w0 w') (j : Nat) (l2 : RM.Dl) a b (h1 : Cn w0 a (r.part j)) (h2 : Cn w' b l2) (hd : ∀ i z, l2.at_ i = some z → Db z) => eqf_any w0 b16 b19 b7 b8 b10 n Q f hM (r.part j) l2 w' a b hb' h1 (fun i z c hz hc => hpi.out j i z c hz hc) h2 hd)
  have hM' := Lib.hid hM
  unfold dtv at *
  unfold clv at *
  have hbx := two_boxes w #[.int .i64 x.k, .int .i64 x.n, .string ⟨x.s.toArray⟩, .slice A x.is.len cA] #[.int .i64 y.k, .int .i64 y.n, .string ⟨y.s.toArray⟩, .slice B y.is.len cB] 24 24
  obtain ⟨hb1, hL1, hL2⟩ := hbx
  have hR' := Lib.hid hR
  clear hr hL hR hN hM hp hv hy
  cases ok with
  | false =>
    have hRf : R = false := by rw [← hR'.out]; rfl
    subst hRf
    go_enter Tryz.func21, Tryz.ntmps21
    go_wp2_with (first
      | (go_at_call 33
         refine (hRow.out _ (hb.trans (hb1.mono hb.size))).mono ?_
         rintro e w3 ⟨a, b, c, d, rfl, hRA, hb3⟩
         obtain ⟨Fa, ca, rfl⟩ := hRA.f.read
         obtain ⟨Ma, cm, rfl⟩ := hRA.m.read
         obtain ⟨Ba, cb, rfl⟩ := hRA.b.read
         obtain ⟨Ta, ct, rfl⟩ := hRA.t.read
         unfold rwv
         have hbw3 := Lib.hid (hb1.trans (hb3.mono hb1.size))
         have b4 := m_box w3 #[.slice Fa r.f.len ca, .slice Ma r.m.len cm, .slice Ba r.b.len cb, .slice Ta r.t.len ct] 78
         have hbw4 := Lib.hid (hbw3.out.trans (b4.mono hbw3.out.size))
         have hRA' := Lib.hid hRA
         have X4 := (hL1.below hb3 hL1.lt).below b4 (hL1.below hb3 hL1.lt).lt
         have Y4 := (hL2.below hb3 hL2.lt).below b4 (hL2.below hb3 hL2.lt).lt
         have G4 := Lies.made w3 78 #[.slice Fa r.f.len ca, .slice Ma r.m.len cm, .slice Ba r.b.len cb, .slice Ta r.t.len ct]
         have k0 := X4.cell 0
         have j0 := Y4.cell 0
         have j1 := Y4.cell 1
         have j2 := Y4.cell 2
         have j3 := Y4.cell 3
         simp only [List.getElem?_cons_zero, List.getElem?_cons_succ] at k0 j0 j1 j2 j3
         have hLay4 := Lib.hid (hLay.out _ _ _ _ _ hbw4.out (hRA.below (hb.trans (hbw4.out.mono hb.size))))
         unfold rwv LayN at hLay4
         clear hb3 hRA)
      | (go_at_call 34
         refine hLay4.out.mono ?_
         rintro e w7 ⟨a7, b7', c7, d7, rfl, hR7, hb7⟩
         obtain ⟨Fl, cfl, rfl⟩ := hR7.f.read
         obtain ⟨Ml, cml, rfl⟩ := hR7.m.read
         obtain ⟨Bl', cbl, rfl⟩ := hR7.b.read
         obtain ⟨Tl', ctl, rfl⟩ := hR7.t.read
         unfold rwv
         have hbw7 := Lib.hid (hbw4.out.trans (hb7.mono hbw4.out.size))
         have G7 := G4.below hb7 G4.lt
         have G8 := G7.alloc (.cells #[.slice Fl L.f.len cfl, .slice Ml L.m.len cml, .slice Bl' L.b.len cbl, .slice Tl' L.t.len ctl] 78)
         have H8 := Lies.made w7 78 #[.slice Fl L.f.len cfl, .slice Ml L.m.len cml, .slice Bl' L.b.len cbl, .slice Tl' L.t.len ctl]
         have g81 := G8.cell 1
         simp only [List.getElem?_cons_zero, List.getElem?_cons_succ] at g81
         have hR7' := Lib.hid hR7
         clear hb7 hR7))
    go_ret
    exact ⟨rfl, hbw7.out.trans ((m_box w7 _ _).mono hbw7.out.size)⟩
  | true =>
    simp only [Bool.true_and] at hR'
    obtain ⟨P1, hP1⟩ : ∃ P, MM.allp (fun x => MM.allp (MM.mt n Q f x) L.m) r.m = P := ⟨_, rfl⟩
    have hP1' := Lib.hid hP1
    rw [hP1] at hR'
    clear hP1
    go_enter Tryz.func21, Tryz.ntmps21
    go_wp2_with (first
      | (go_at_call 33
         refine (hRow.out _ (hb.trans (hb1.mono hb.size))).mono ?_
         rintro e w3 ⟨a, b, c, d, rfl, hRA, hb3⟩
         obtain ⟨Fa, ca, rfl⟩ := hRA.f.read
         obtain ⟨Ma, cm, rfl⟩ := hRA.m.read
         obtain ⟨Ba, cb, rfl⟩ := hRA.b.read
         obtain ⟨Ta, ct, rfl⟩ := hRA.t.read
         unfold rwv
         have hbw3 := Lib.hid (hb1.trans (hb3.mono hb1.size))
         have b4 := m_box w3 #[.slice Fa r.f.len ca, .slice Ma r.m.len cm, .slice Ba r.b.len cb, .slice Ta r.t.len ct] 78
         have hbw4 := Lib.hid (hbw3.out.trans (b4.mono hbw3.out.size))
         have hRA' := Lib.hid hRA
         have X4 := (hL1.below hb3 hL1.lt).below b4 (hL1.below hb3 hL1.lt).lt
         have Y4 := (hL2.below hb3 hL2.lt).below b4 (hL2.below hb3 hL2.lt).lt
         have G4 := Lies.made w3 78 #[.slice Fa r.f.len ca, .slice Ma r.m.len cm, .slice Ba r.b.len cb, .slice Ta r.t.len ct]
         have k0 := X4.cell 0
         have j0 := Y4.cell 0
         have j1 := Y4.cell 1
         have j2 := Y4.cell 2
         have j3 := Y4.cell 3
         simp only [List.getElem?_cons_zero, List.getElem?_cons_succ] at k0 j0 j1 j2 j3
         have hLay4 := Lib.hid (hLay.out _ _ _ _ _ hbw4.out (hRA.below (hb.trans (hbw4.out.mono hb.size))))
         unfold rwv LayN at hLay4
         clear hb3 hRA)
      | (go_at_call 34
         refine hLay4.out.mono ?_
         rintro e w7 ⟨a7, b7', c7, d7, rfl, hR7, hb7⟩
         obtain ⟨Fl, cfl, rfl⟩ := hR7.f.read
         obtain ⟨Ml, cml, rfl⟩ := hR7.m.read
         obtain ⟨Bl', cbl, rfl⟩ := hR7.b.read
         obtain ⟨Tl', ctl, rfl⟩ := hR7.t.read
         unfold rwv
         have hbw7 := Lib.hid (hbw4.out.trans (hb7.mono hbw4.out.size))
         have G7 := G4.below hb7 G4.lt
         have G8 := G7.alloc (.cells #[.slice Fl L.f.len cfl, .slice Ml L.m.len cml, .slice Bl' L.b.len cbl, .slice Tl' L.t.len ctl] 78)
         have H8 := Lies.made w7 78 #[.slice Fl L.f.len cfl, .slice Ml L.m.len cml, .slice Bl' L.b.len cbl, .slice Tl' L.t.len ctl]
         have g81 := G8.cell 1
         simp only [List.getElem?_cons_zero, List.getElem?_cons_succ] at g81
         have hR7' := Lib.hid hR7
         clear hb7 hR7))
    obtain ⟨M5, hM5⟩ : ∃ M5, r.m.len = M5 := ⟨_, rfl⟩
    have hM5' := Lib.hid hM5
    obtain ⟨N5, hN5⟩ : ∃ N5, L.m.len = N5 := ⟨_, rfl⟩
    have hN5' := Lib.hid hN5
    have hMN : M5 ≤ 9223372036854775807 ∧ N5 ≤ 9223372036854775807 := by rw [← hM5, ← hN5]; exact ⟨hRA'.out.m.len, hR7'.out.m.len⟩
    have hb78 := m_box w7 #[.slice Fl L.f.len cfl, .slice Ml L.m.len cml, .slice Bl' L.b.len cbl, .slice Tl' L.t.len ctl] 78
    have hR8 := Lib.hid (hR7'.out.below hb78)
    have hbw8 := Lib.hid (hbw7.out.trans (hb78.mono hbw7.out.size))
    obtain ⟨W8, hW8⟩ : ∃ W8, W8 = w7.alloc (.cells #[.slice Fl L.f.len cfl, .slice Ml L.m.len cml, .slice Bl' L.b.len cbl, .slice Tl' L.t.len ctl] 78) := ⟨_, rfl⟩
    rw [← hW8] at G8 H8 hR8 hbw8 g81 ⊢
    rw [hM5]
    clear hb78 G7 hW8 hM5 hN5 X4 Y4 G4 k0 j0 j1 j2 j3 b4
    go_loopw [32] (fun i wr => ∃ (j : Nat), j ≤ M5 ∧ i = .int .i64 j ∧ Hid (P1 = MM.allp (fun x => MM.allp (MM.mt n Q f x) L.m) (SM.dr r.m j)) ∧ Below W8.heap.size W8 wr) (fun i _ => M5 - (intOf i).toNat)
    case atStart => exact ⟨0, Nat.zero_le _, rfl, Lib.hid (by rw [SM.dr_zero]; exact hP1'.out.symm), Below.refl _ _⟩
    case round =>
      obtain ⟨i, hi, rfl, hre, hbr⟩ := hrel
      have hWr := Lib.hid (hbw8.out.trans (hbr.mono hbw8.out.size))
      have Gr := G8.below hbr G8.lt
      have Hr := H8.below hbr H8.lt
      by_cases hlt : i < M5
      · obtain ⟨x5, hx5⟩ := r.m.at_some i (by rw [hM5'.out]; exact hlt)
        obtain ⟨g1, o1, B1, b1, rfl, hg1, p0, p1, p2, p3, hd1⟩ := hRA'.out.m.at_ hx5
        have hb0 : Below w0.heap.size w0 wr := hb.trans (hWr.out.mono hb.size)
        have r0 := (hb0.cell (p := ⟨g1, o1 + i * 4, none⟩) hg1).trans p0
        have r1 := (hb0.cell (p := ⟨g1, o1 + i * 4 + 1, none⟩) hg1).trans p1
        have r2 := (hb0.cell (p := ⟨g1, o1 + i * 4 + 2, none⟩) hg1).trans p2
        have r3 := (hb0.cell (p := ⟨g1, o1 + i * 4 + 3, none⟩) hg1).trans p3
        have hpx := Lib.hid (hpi.out 1 i x5 _ hx5 hd1)
        have hdr := Lib.hid (allp_dr (F := fun x => MM.allp (MM.mt n Q f x) L.m) hx5)
        have hbx5 := m_box wr #[.int .i64 x5.k, .int .i64 x5.n, .string ⟨x5.s.toArray⟩, .slice B1 x5.is.len b1] 24
        have X5 := Lies.made wr 24 #[.int .i64 x5.k, .int .i64 x5.n, .string ⟨x5.s.toArray⟩, .slice B1 x5.is.len b1]
        have Hx := Hr.below hbx5 Hr.lt
        have h51 := Hx.cell 1
        simp only [List.getElem?_cons_zero, List.getElem?_cons_succ] at h51
        rw [hN5'.out] at h51
        obtain ⟨P2, hP2⟩ : ∃ P2, MM.allp (MM.mt n Q f x5) L.m = P2 := ⟨_, rfl⟩
        have hP2' := Lib.hid hP2
        have hbx6 := Lib.hid (hbr.trans (hbx5.mono hbr.size))
        simp only [hP2] at hdr
        clear hx5 hd1 p0 p1 p2 p3 hP2 Gr Hr Hx
        go_wp2_with fail
        obtain ⟨wo, hwo⟩ : ∃ z, z = wr := ⟨_, rfl⟩
        subst hwo
        go_loopw [39] (fun i wr => ∃ (j : Nat), j ≤ N5 ∧ i = .int .i64 j ∧ Hid (P2 = MM.allp (MM.mt n Q f x5) (SM.dr L.m j)) ∧ Lies wr wo.heap.size 24 [.int .i64 x5.k, .int .i64 x5.n, .string ⟨x5.s.toArray⟩, .slice B1 x5.is.len b1] ∧ Below W8.heap.size W8 wr) (fun i _ => N5 - (intOf i).toNat)
        case atStart => exact ⟨0, Nat.zero_le _, rfl, Lib.hid (by rw [SM.dr_zero]; exact hP2'.out.symm), X5, hbx6.out⟩
        case round =>
          clear hbr X5 h51 r0 r1 r2 r3 hbx5 hWr hb0
          obtain ⟨j, hj, rfl, hre2, hX, hbr⟩ := hrel
          by_cases hlt2 : j < N5
          · obtain ⟨z, hz⟩ := L.m.at_some j (by rw [hN5'.out]; exact hlt2)
            have hWr := Lib.hid (hbw8.out.trans (hbr.mono hbw8.out.size))
            have hb0 : Below w0.heap.size w0 wr := hb.trans (hWr.out.mono hb.size)
            have hmm := hR8.out.m.below hbr
            rw [hN5'.out] at hmm
            obtain ⟨g2, o2, B2, b2, rfl, hg2, q0, q1, q2, q3, hd2⟩ := hmm.at_ hz
            have hbz := m_box wr #[.int .i64 z.k, .int .i64 z.n, .string ⟨z.s.toArray⟩, .slice B2 z.is.len b2] 24
            have Xz := hX.below hbz hX.lt
            have k0 := Xz.cell 0
            have k1 := Xz.cell 1
            have k2 := Xz.cell 2
            have k3 := Xz.cell 3
            simp only [List.getElem?_cons_zero, List.getElem?_cons_succ] at k0 k1 k2 k3
            have hC := Lib.hid (hM'.out _ x5 _ z _ (hb0.trans (hbz.mono hb0.size)) hpx.out (hd2.below hbz) (hdb.out 1 j z hz))
            have hdr2 := Lib.hid (allp_dr (F := MM.mt n Q f x5) hz)
            obtain ⟨rr, hrr⟩ : ∃ rr, MM.mt n Q f x5 z = rr := ⟨_, rfl⟩
            rw [hrr] at hC
            simp only [hrr] at hdr2
            have hbz' := Lib.hid (hbr.trans (hbz.mono hbr.size))
            clear hz hd2 hrr hmm
            cases rr with
            | false =>
              go_wp2_with (
                go_at_call 19
                refine hC.out.mono ?_
                rintro e w5 ⟨rfl, hb5⟩)
              go_ret
              have hRf : R = false := by
                have e1 : P2 = false := by rw [hre2.out, hdr2.out]; rfl
                have e2 : P1 = false := by rw [hre.out, hdr.out, e1]; rfl
                rw [← hR'.out, e2]; rfl
              subst hRf
              exact ⟨rfl, hWr.out.trans ((hbz.trans (hb5.mono hbz.size)).mono hWr.out.size)⟩
            | true =>
              go_wp2_with (
                go_at_call 19
                refine hC.out.mono ?_
                rintro e w5 ⟨rfl, hb5⟩)
              go_roundw
              case rel => exact ⟨j + 1, by omega, by go_num, Lib.hid (by rw [hre2.out, hdr2.out]; rfl), Xz.below hb5 Xz.lt, hbz'.out.trans (hb5.mono hbz'.out.size)⟩
              case measure => simp [intOf]; omega
          · obtain rfl : j = N5 := by omega
            have e1 : P2 = true := by rw [hre2.out, SM.dr_end _ _ (by rw [hN5'.out]; exact Nat.le_refl _)]; rfl
            subst e1
            go_wp2_with fail
            go_roundw
            case rel => exact ⟨i + 1, by omega, by go_num, Lib.hid (by rw [hre.out, hdr.out]; rfl), hbr⟩
            case measure => simp [intOf]; omega
      · obtain rfl : i = M5 := by omega
        have e1 : P1 = true := by rw [hre.out, SM.dr_end _ _ (by rw [hM5'.out]; exact Nat.le_refl _)]; rfl
        subst e1
        have hb0 : Below w0.heap.size w0 wr := hb.trans (hWr.out.mono hb.size)
        have hX1 := Lib.hid (fun (w' : World) (hb' : Below w.heap.size w w') (hb8 : Below W8.heap.size W8 w') => hE.out w' (hb.trans (hb'.mono hb.size)) 0 L.f _ _ hRA'.out.f (hR8.out.f.below hb8) (fun i z h => hdb.out 0 i z h))
        have hX2 := Lib.hid (fun (w' : World) (hb' : Below w.heap.size w w') (hb8 : Below W8.heap.size W8 w') => hE.out w' (hb.trans (hb'.mono hb.size)) 2 L.b _ _ hRA'.out.b (hR8.out.b.below hb8) (fun i z h => hdb.out 2 i z h))
        have hX3 := Lib.hid (fun (w' : World) (hb' : Below w.heap.size w w') (hb8 : Below W8.heap.size W8 w') => hE.out w' (hb.trans (hb'.mono hb.size)) 3 L.t _ _ hRA'.out.t (hR8.out.t.below hb8) (fun i z h => hdb.out 3 i z h))
        rw [show r.part 0 = r.f from rfl] at hX1
        rw [show r.part 2 = r.b from rfl] at hX2
        rw [show r.part 3 = r.t from rfl] at hX3
        obtain ⟨E1, hE1⟩ : ∃ E, MM.all2 (MM.mt n Q f) r.f L.f = E := ⟨_, rfl⟩
        obtain ⟨E2, hE2⟩ : ∃ E, MM.all2 (MM.mt n Q f) r.b L.b = E := ⟨_, rfl⟩
        obtain ⟨E3, hE3⟩ : ∃ E, MM.all2 (MM.mt n Q f) r.t L.t = E := ⟨_, rfl⟩
        rw [hE1] at hX1 hR'
        rw [hE2] at hX2 hR'
        rw [hE3] at hX3 hR'
        have ga := Gr.cell 0
        have ha := Hr.cell 0
        simp only [List.getElem?_cons_zero] at ga ha
        have hbr' := Lib.hid hbr
        clear hE1 hE2 hE3 hre hb0 hbr
        cases E1 with
        | false =>
          have hRf : R = false := by rw [← hR'.out]; rfl
          subst hRf
          go_wp2_with (first
            | (go_at_call 35
               (with_reducible refine (hX1.out _ hWr.out hbr'.out).mono ?_)
               rintro e wa ⟨rfl, hb_wa⟩
               have G_wa := Gr.below hb_wa Gr.lt
               have H_wa := Hr.below hb_wa Hr.lt
               have ga_wa := G_wa.cell 0
               have gb_wa := G_wa.cell 2
               have gc_wa := G_wa.cell 3
               have ha_wa := H_wa.cell 0
               have hd_wa := H_wa.cell 2
               have hc_wa := H_wa.cell 3
               simp only [List.getElem?_cons_zero, List.getElem?_cons_succ] at ga_wa gb_wa gc_wa ha_wa hd_wa hc_wa
               have hW_wa := Lib.hid (hWr.out.trans (hb_wa.mono hWr.out.size))
               have h8_wa := Lib.hid (hbr'.out.trans (hb_wa.mono hbr'.out.size))
               clear hb_wa))
          go_ret
          exact ⟨rfl, hW_wa.out⟩
        | true =>
          cases E2 with
          | false =>
            have hRf : R = false := by rw [← hR'.out]; rfl
            subst hRf
            go_wp2_with (first
              | (go_at_call 35
                 (with_reducible refine (hX1.out _ hWr.out hbr'.out).mono ?_)
                 rintro e wa ⟨rfl, hb_wa⟩
                 have G_wa := Gr.below hb_wa Gr.lt
                 have H_wa := Hr.below hb_wa Hr.lt
                 have ga_wa := G_wa.cell 0
                 have gb_wa := G_wa.cell 2
                 have gc_wa := G_wa.cell 3
                 have ha_wa := H_wa.cell 0
                 have hd_wa := H_wa.cell 2
                 have hc_wa := H_wa.cell 3
                 simp only [List.getElem?_cons_zero, List.getElem?_cons_succ] at ga_wa gb_wa gc_wa ha_wa hd_wa hc_wa
                 have hW_wa := Lib.hid (hWr.out.trans (hb_wa.mono hWr.out.size))
                 have h8_wa := Lib.hid (hbr'.out.trans (hb_wa.mono hbr'.out.size))
                 clear hb_wa)
              | (go_at_call 35
                 (with_reducible refine (hX2.out _ hW_wa.out h8_wa.out).mono ?_)
                 rintro e wb ⟨rfl, hb_wb⟩
                 have G_wb := G_wa.below hb_wb G_wa.lt
                 have H_wb := H_wa.below hb_wb H_wa.lt
                 have ga_wb := G_wb.cell 0
                 have gb_wb := G_wb.cell 2
                 have gc_wb := G_wb.cell 3
                 have ha_wb := H_wb.cell 0
                 have hd_wb := H_wb.cell 2
                 have hc_wb := H_wb.cell 3
                 simp only [List.getElem?_cons_zero, List.getElem?_cons_succ] at ga_wb gb_wb gc_wb ha_wb hd_wb hc_wb
                 have hW_wb := Lib.hid (hW_wa.out.trans (hb_wb.mono hW_wa.out.size))
                 have h8_wb := Lib.hid (h8_wa.out.trans (hb_wb.mono h8_wa.out.size))
                 clear hb_wb))
            go_ret
            exact ⟨rfl, hW_wb.out⟩
          | true =>
            have hRf : R = E3 := by rw [← hR'.out]; simp
            subst hRf
            go_wp2_with (first
              | (go_at_call 35
                 (with_reducible refine (hX1.out _ hWr.out hbr'.out).mono ?_)
                 rintro e wa ⟨rfl, hb_wa⟩
                 have G_wa := Gr.below hb_wa Gr.lt
                 have H_wa := Hr.below hb_wa Hr.lt
                 have ga_wa := G_wa.cell 0
                 have gb_wa := G_wa.cell 2
                 have gc_wa := G_wa.cell 3
                 have ha_wa := H_wa.cell 0
                 have hd_wa := H_wa.cell 2
                 have hc_wa := H_wa.cell 3
                 simp only [List.getElem?_cons_zero, List.getElem?_cons_succ] at ga_wa gb_wa gc_wa ha_wa hd_wa hc_wa
                 have hW_wa := Lib.hid (hWr.out.trans (hb_wa.mono hWr.out.size))
                 have h8_wa := Lib.hid (hbr'.out.trans (hb_wa.mono hbr'.out.size))
                 clear hb_wa)
              | (go_at_call 35
                 (with_reducible refine (hX2.out _ hW_wa.out h8_wa.out).mono ?_)
                 rintro e wb ⟨rfl, hb_wb⟩
                 have G_wb := G_wa.below hb_wb G_wa.lt
                 have H_wb := H_wa.below hb_wb H_wa.lt
                 have ga_wb := G_wb.cell 0
                 have gb_wb := G_wb.cell 2
                 have gc_wb := G_wb.cell 3
                 have ha_wb := H_wb.cell 0
                 have hd_wb := H_wb.cell 2
                 have hc_wb := H_wb.cell 3
                 simp only [List.getElem?_cons_zero, List.getElem?_cons_succ] at ga_wb gb_wb gc_wb ha_wb hd_wb hc_wb
                 have hW_wb := Lib.hid (hW_wa.out.trans (hb_wb.mono hW_wa.out.size))
                 have h8_wb := Lib.hid (h8_wa.out.trans (hb_wb.mono h8_wa.out.size))
                 clear hb_wb)
              | (go_at_call 35
                 (with_reducible refine (hX3.out _ hW_wb.out h8_wb.out).mono ?_)
                 rintro e wc ⟨rfl, hb_wc⟩
                 have G_wc := G_wb.below hb_wc G_wb.lt
                 have H_wc := H_wb.below hb_wc H_wb.lt
                 have ga_wc := G_wc.cell 0
                 have gb_wc := G_wc.cell 2
                 have gc_wc := G_wc.cell 3
                 have ha_wc := H_wc.cell 0
                 have hd_wc := H_wc.cell 2
                 have hc_wc := H_wc.cell 3
                 simp only [List.getElem?_cons_zero, List.getElem?_cons_succ] at ga_wc gb_wc gc_wc ha_wc hd_wc hc_wc
                 have hW_wc := Lib.hid (hW_wb.out.trans (hb_wc.mono hW_wb.out.size))
                 clear hb_wc))
            go_ret
            exact ⟨rfl, hW_wc.out⟩
end
end Go.Proofs.YtbomodendobnkaaGreat

/- Package match: the closure, walked; by induction. -/
namespace Go.Proofs.YtbomodendobnkaaGreat
open Go.ChangeShapes Go.WideShapes Go.ChangeAt Go.RowKit Go.Deep
open MM (Bl Bm Var)

theorem cls_three {n : MM.NM} {x : RM.Dm} (h : MM.cls n x = 3) : x.k = 5 ∧ n x.s = 3 := by
  unfold MM.cls at h
  split at h
  · rename_i hk; exact ⟨hk, h⟩
  split at h
  · simp at h
  · simp at h
section
variable (w0 : World) (b16 b19 b7 b8 b10 q m : Nat) (tv : Value) (ta tf : Int) (n : MM.NM) (Q : List UInt8 → List UInt8 → Bool)
/-- do names mean the same: what is asked of the table -/
def QOk : Prop := ∀ (w : World) (x y : List UInt8), Below w0.heap.size w0 w → n x = 3 → y.length ≤ maxLen →
  Calls Tryz.prog 22 #[tv, .int .i64 ta, .string ⟨x.toArray⟩, .int .i64 tf, .string ⟨y.toArray⟩] w (BoolN (Q x y) w)
set_option maxRecDepth 100000 in
set_option maxHeartbeats 8000000 in
theorem mt_step (tp : Option Addr) (htv : tv = .pointer tp) (hN : Nm w0 q m n) (hCl : Cl w0 b16 b19 b7 b8 b10 q tv ta tf) (hQ : QOk w0 tv ta tf n Q) (f : Nat) (hM : MOk w0 b16 b19 b7 b8 b10 n Q f) : MOk w0 b16 b19 b7 b8 b10 n Q (f + 1) := by
  intro w x u y v hb hp hv hy
  subst htv
  obtain ⟨A, cA, rfl⟩ := hp.v.read
  obtain ⟨B, cB, rfl⟩ := hv.read
  have hO := Lib.hid (fun (w' : World) (hb' : Below w0.heap.size w0 w') => of_any w' q m n x _ (hN.below hb') hp.s (hp.v.below hb'))
  have hR := Lib.hid (fun (w' : World) (hb' : Below w.heap.size w w') => mrow_any w0 b16 b19 b7 b8 b10 q m n Q hN f hM w' x _ y _ (hb.trans (hb'.mono hb.size)) hp (hv.below hb') hy)
  have hQ' := Lib.hid (fun (w' : World) (hb' : Below w.heap.size w w') (h3 : n x.s = 3) => hQ w' x.s y.s (hb.trans (hb'.mono hb.size)) h3 hy.1)
  unfold dtv clv at *
  have hbx := two_boxes w #[.int .i64 x.k, .int .i64 x.n, .string ⟨x.s.toArray⟩, .slice A x.is.len cA] #[.int .i64 y.k, .int .i64 y.n, .string ⟨y.s.toArray⟩, .slice B y.is.len cB] 24 24
  obtain ⟨hb1, hL1, hL2⟩ := hbx
  have hCw := (hCl.below hb).below hb1
  have n0 := hCw.n.cell 0
  simp only [List.getElem?_cons_zero] at n0
  have hb01 := Lib.hid (hb.trans (hb1.mono hb.size))
  obtain ⟨R, hRe⟩ : ∃ R, MM.mt n Q (f + 1) x y = R := ⟨_, rfl⟩
  rw [hRe]
  unfold MM.mt at hRe
  obtain ⟨C, hC⟩ : ∃ C, MM.cls n x = C := ⟨_, rfl⟩
  rw [hC] at hRe hO
  have h3 : C = 3 → n x.s = 3 := fun h => (cls_three (hC.trans h)).2
  obtain ⟨G, hG⟩ : ∃ G, MM.mtr (MM.mt n Q f) n x y = G := ⟨_, rfl⟩
  rw [hG] at hR hRe
  have hCw' := Lib.hid hCw
  clear hC hG hM hN hQ hCl hCw hp hv hy
  by_cases h4 : C = 4
  · subst h4
    rw [if_pos rfl] at hRe
    subst hRe
    go_enter Tryz.func19, Tryz.ntmps19
    go_wp2_with (first
      | (go_at_call 20
         refine (hO.out _ hb01.out).mono ?_
         rintro e w3 ⟨rfl, hb3⟩
         have X3 := hL1.below hb3 hL1.lt
         have Y3 := hL2.below hb3 hL2.lt
         have C3 := hCw'.out.below hb3
         have k0 := X3.cell 0
         have k1 := X3.cell 1
         have k2 := X3.cell 2
         have k3 := X3.cell 3
         have j0 := Y3.cell 0
         have j1 := Y3.cell 1
         have j2 := Y3.cell 2
         have j3 := Y3.cell 3
         have c0 := C3.n.cell 0
         have c1 := C3.f.cell 0
         unfold clv at c1
         simp only [List.getElem?_cons_zero, List.getElem?_cons_succ] at k0 k1 k2 k3 j0 j1 j2 j3 c0 c1
         have hbw := Lib.hid (hb1.trans (hb3.mono hb1.size))
         clear hb3)
      | (go_at_call 21
         refine (hR.out _ hbw.out).mono ?_
         rintro e w5 ⟨rfl, hb5⟩))
    go_ret
    exact ⟨rfl, hbw.out.trans (hb5.mono hbw.out.size)⟩
  rw [if_neg h4] at hRe
  have e4 : (C == 4) = false := by simp [h4]
  by_cases h3' : C = 3
  · have hn3 := h3 h3'
    subst h3'
    rw [if_pos rfl] at hRe
    have hQ2 := Lib.hid (fun (w' : World) (hb' : Below w.heap.size w w') => hQ'.out w' hb' hn3)
    obtain ⟨QB, hQB⟩ : ∃ QB, Q x.s y.s = QB := ⟨_, rfl⟩
    rw [hQB] at hQ2 hRe
    clear hQ' hQB h3 hn3
    by_cases h5 : y.k = 5
    · rw [decide_eq_true h5, Bool.true_and] at hRe
      subst hRe
      have h5b : (y.k == 5) = true := by simp [h5]
      have h5' := Lib.hid h5
      clear h5
      go_enter Tryz.func19, Tryz.ntmps19
      go_wp2_with (first
        | (go_at_call 20
           refine (hO.out _ hb01.out).mono ?_
           rintro e w3 ⟨rfl, hb3⟩
           have X3 := hL1.below hb3 hL1.lt
           have Y3 := hL2.below hb3 hL2.lt
           have C3 := hCw'.out.below hb3
           have k2 := X3.cell 2
           have j0 := Y3.cell 0
           have j2 := Y3.cell 2
           have c0 := C3.t.cell 0
           have c1 := C3.a.cell 0
           have c2 := C3.b.cell 0
           simp only [List.getElem?_cons_zero, List.getElem?_cons_succ] at k2 j0 j2 c0 c1 c2
           have hbw := Lib.hid (hb1.trans (hb3.mono hb1.size))
           clear hb3)
        | (go_at_call 22
           refine (hQ2.out _ hbw.out).mono ?_
           rintro e w5 ⟨rfl, hb5⟩))
      go_ret
      exact ⟨rfl, hbw.out.trans (hb5.mono hbw.out.size)⟩
    · rw [decide_eq_false h5, Bool.false_and] at hRe
      subst hRe
      have h5b : (y.k == 5) = false := by simp [h5]
      have h5' := Lib.hid h5
      clear h5
      go_enter Tryz.func19, Tryz.ntmps19
      go_wp2_with (
        go_at_call 20
        refine (hO.out _ hb01.out).mono ?_
        rintro e w3 ⟨rfl, hb3⟩
        have Y3 := hL2.below hb3 hL2.lt
        have j0 := Y3.cell 0
        simp only [List.getElem?_cons_zero] at j0
        have hbw := Lib.hid (hb1.trans (hb3.mono hb1.size))
        clear hb3)
      go_ret
      exact ⟨rfl, hbw.out⟩
  rw [if_neg h3'] at hRe
  have e3 : (C == 3) = false := by simp [h3']
  clear h3 hQ' hR
  by_cases h5 : C = 5
  · subst h5
    rw [if_pos rfl] at hRe
    by_cases hk : y.k = x.k
    · rw [decide_eq_true hk, Bool.true_and] at hRe
      have hkb : (y.k == x.k) = true := by simp [hk]
      by_cases hn : y.n = x.n
      · rw [decide_eq_true hn, Bool.true_and] at hRe
        have hnb : (y.n == x.n) = true := by simp [hn]
        have hSb := Lib.hid (show (y.s == x.s) = R by
          rw [← hRe]
          by_cases hs : y.s = x.s <;> simp [hs])
        have hk' := Lib.hid hk
        have hn' := Lib.hid hn
        clear hk hn hRe
        go_enter Tryz.func19, Tryz.ntmps19
        go_wp2_with (
          go_at_call 20
          refine (hO.out _ hb01.out).mono ?_
          rintro e w3 ⟨rfl, hb3⟩
          have X3 := hL1.below hb3 hL1.lt
          have Y3 := hL2.below hb3 hL2.lt
          have k0 := X3.cell 0
          have k1 := X3.cell 1
          have k2 := X3.cell 2
          have j0 := Y3.cell 0
          have j1 := Y3.cell 1
          have j2 := Y3.cell 2
          simp only [List.getElem?_cons_zero, List.getElem?_cons_succ] at k0 k1 k2 j0 j1 j2
          have hbw := Lib.hid (hb1.trans (hb3.mono hb1.size))
          clear hb3)
        go_ret
        exact ⟨by rw [← hSb.out]; rfl, hbw.out⟩
      · rw [decide_eq_false hn, Bool.false_and] at hRe
        subst hRe
        have hnb : (y.n == x.n) = false := by simp [hn]
        have hk' := Lib.hid hk
        have hn' := Lib.hid hn
        clear hk hn
        go_enter Tryz.func19, Tryz.ntmps19
        go_wp2_with (
          go_at_call 20
          refine (hO.out _ hb01.out).mono ?_
          rintro e w3 ⟨rfl, hb3⟩
          have X3 := hL1.below hb3 hL1.lt
          have Y3 := hL2.below hb3 hL2.lt
          have k0 := X3.cell 0
          have k1 := X3.cell 1
          have j0 := Y3.cell 0
          have j1 := Y3.cell 1
          simp only [List.getElem?_cons_zero, List.getElem?_cons_succ] at k0 k1 j0 j1
          have hbw := Lib.hid (hb1.trans (hb3.mono hb1.size))
          clear hb3)
        go_ret
        exact ⟨rfl, hbw.out⟩
    · rw [decide_eq_false hk, Bool.false_and] at hRe
      subst hRe
      have hkb : (y.k == x.k) = false := by simp [hk]
      have hk' := Lib.hid hk
      clear hk
      go_enter Tryz.func19, Tryz.ntmps19
      go_wp2_with (
        go_at_call 20
        refine (hO.out _ hb01.out).mono ?_
        rintro e w3 ⟨rfl, hb3⟩
        have X3 := hL1.below hb3 hL1.lt
        have Y3 := hL2.below hb3 hL2.lt
        have k0 := X3.cell 0
        have j0 := Y3.cell 0
        simp only [List.getElem?_cons_zero] at k0 j0
        have hbw := Lib.hid (hb1.trans (hb3.mono hb1.size))
        clear hb3)
      go_ret
      exact ⟨rfl, hbw.out⟩
  · rw [if_neg h5] at hRe
    subst hRe
    have e5 : (C == 5) = false := by simp [h5]
    go_enter Tryz.func19, Tryz.ntmps19
    go_wp2_with (
      go_at_call 20
      refine (hO.out _ hb01.out).mono ?_
      rintro e w3 ⟨rfl, hb3⟩)
    go_ret
    exact ⟨rfl, hb1.trans (hb3.mono hb1.size)⟩
theorem mt_any (tp : Option Addr) (htv : tv = .pointer tp) (hN : Nm w0 q m n) (hCl : Cl w0 b16 b19 b7 b8 b10 q tv ta tf) (hQ : QOk w0 tv ta tf n Q) : ∀ f, MOk w0 b16 b19 b7 b8 b10 n Q f
  | 0 => fun w x u y v _ hp => absurd hp.d (by omega)
  | f + 1 => mt_step w0 b16 b19 b7 b8 b10 q m tv ta tf n Q tp htv hN hCl hQ f (mt_any tp htv hN hCl hQ f)
end
end Go.Proofs.YtbomodendobnkaaGreat
