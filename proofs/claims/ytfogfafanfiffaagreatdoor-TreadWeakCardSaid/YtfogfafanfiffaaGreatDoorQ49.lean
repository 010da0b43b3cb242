/- The law TreadWeak, walked. -/
import Derived.Test.YtfogfafanfiffaaGreatDoorQ48
namespace Go.Proofs.YtfogfafanfiffaaGreatDoor
open Go.RowKit Go.ChangeShapes Go.WideShapes Go.ChangeAt

set_option maxHeartbeats 2000000 in
set_option maxRecDepth 100000 in
theorem weak_walk (qa qb qc qd k : Int) (A : Option Addr) (n c : Nat) (Z : Nat → Nat → Int) (hn : n ≤ maxLen) (w : World) (hz : CameRows w [.i64, .i64, .i64, .i64, .i64] A n Z) (hT : Tab w) :
    Calls Tryz.prog 5 #[.agg #[.int .i64 qa, .int .i64 qb, .int .i64 qc, .int .i64 qd, .int .i64 k], .slice A n c] w fun e w' => e = .returned (.bool true) ∧ Below w.heap.size w w' := by
  have AW := Lib.hid (fun w1 (h : Below w.heap.size w w1) => awake_any w1 (hT.below h))
  have LO := Lib.hid (fun w1 => long_any A n c w1 hn)
  have hbx := Lies.made w 24 #[.int .i64 qa, .int .i64 qb, .int .i64 qc, .int .i64 qd, .int .i64 k]
  have b0 := (Below.refl w.heap.size w).alloc (Nat.le_refl _) (.cells #[.int .i64 qa, .int .i64 qb, .int .i64 qc, .int .i64 qd, .int .i64 k] 24)
  have HZ := Lib.hid (And.intro hz hT)
  have hmx := hn
  unfold maxLen at hmx
  clear hz hT hn
  by_cases hs : Small qa qb qc qd k
  · have MY := Lib.hid (fun w1 => (may_any qa qb qc qd k w1).mono fun e w' h => And.intro (h.1.eq hs) h.2)
    by_cases hl : n ≤ 300
    · have hld : decide ((n : Int) > 300) = false := by simp; omega
      rw [hld] at LO
      have hg := small_ok hs
      have BG := Lib.hid (fun w1 (h : Below w.heap.size w w1) => begin_any hg (fun _ => 0) w1 (HZ.out.2.below h))
      have HG := Lib.hid hg
      clear hs hg hld
      go_enter Tryz.func5, Tryz.ntmps5
      go_wp2_with (first
        | (go_at_call 6
           refine (AW.out _ b0).mono ?_
           rintro e w1 ⟨rfl, b1⟩
           have hb1 := hbx.below b1 hbx.lt
           have o0 : w1.cell? ⟨w.heap.size, 0, none⟩ = some (.int .i64 qa) := hb1.cell 0
           have o1 : w1.cell? ⟨w.heap.size, 1, none⟩ = some (.int .i64 qb) := hb1.cell 1
           have o2 : w1.cell? ⟨w.heap.size, 2, none⟩ = some (.int .i64 qc) := hb1.cell 2
           have o3 : w1.cell? ⟨w.heap.size, 3, none⟩ = some (.int .i64 qd) := hb1.cell 3
           have o4 : w1.cell? ⟨w.heap.size, 4, none⟩ = some (.int .i64 k) := hb1.cell 4
           have B1 := Lib.hid (b0.trans (b1.mono b0.size))
           have H1 := Lib.hid hb1
           clear hb1 b1)
        | (go_at_call 7
           refine (MY.out _).mono ?_
           rintro e w2 ⟨rfl, t2⟩
           have hb2 := H1.out.turns t2 (fun h => h)
           have o0' : w2.cell? ⟨w.heap.size, 0, none⟩ = some (.int .i64 qa) := hb2.cell 0
           have o1' : w2.cell? ⟨w.heap.size, 1, none⟩ = some (.int .i64 qb) := hb2.cell 1
           have o2' : w2.cell? ⟨w.heap.size, 2, none⟩ = some (.int .i64 qc) := hb2.cell 2
           have o3' : w2.cell? ⟨w.heap.size, 3, none⟩ = some (.int .i64 qd) := hb2.cell 3
           have o4' : w2.cell? ⟨w.heap.size, 4, none⟩ = some (.int .i64 k) := hb2.cell 4
           have B2 := Lib.hid (B1.out.trans (t2.below B1.out.size (fun _ h => h.elim)))
           clear hb2 t2 o0 o1 o2 o3 o4)
        | (go_at_call 8
           refine (LO.out _).mono ?_
           rintro e w3 ⟨rfl, rfl⟩)
        | (go_at_call 9
           refine (BG.out _ B2.out).mono ?_
           rintro e w4 ⟨x, q, p, b, rfl, hc, hTr, b4, hx, hq, hp, hbb, hxo, hx4⟩
           have S4 := Lib.hid (Ws.first HG.out (fun _ => 0) (fun _ => .slice none 0 0) hc hTr hxo)
           have B4 := Lib.hid (B2.out.trans (b4.mono B2.out.size))
           clear hc hTr b4 o0' o1' o2' o3' o4'))
      have hxg : x ≠ 0 := fun e => by have := HZ.out.2.1; have := B2.out.size; omega
      have hsB : w.heap.size ≤ w4.heap.size := B4.out.size
      have hsx := B2.out.size
      generalize hBB : w4.heap.size = B at *
      have DO := Lib.hid (fun (w5 : World) (e5 : Int) M5 N5 blk5 fv5 al5 full5 (h5 : Ws w5 x q p b e5 ⟨⟨qa, qb, qc, qd⟩, k⟩ M5 N5 B blk5 fv5 al5 false full5 Gk.any) (hN : N5 ≤ 1000) (he : e5 ≤ 900000000) => fun k0 a0 b0 c0 n0 => h5.do_any hxg hN he k0 a0 b0 c0 n0)
      have SEE := Lib.hid (fun (w5 : World) (e5 : Int) M5 N5 blk5 fv5 al5 full5 K5 (h5 : Ws w5 x q p b e5 ⟨⟨qa, qb, qc, qd⟩, k⟩ M5 N5 B blk5 fv5 al5 false full5 K5) (hN : N5 ≤ 100000) => h5.sees hN)
      have INC := Lib.hid (fun (w5 : World) (e5 : Int) M5 N5 blk5 fv5 al5 full5 K5 (h5 : Ws w5 x q p b e5 ⟨⟨qa, qb, qc, qd⟩, k⟩ M5 N5 B blk5 fv5 al5 false full5 K5) (he : e5 + (50 : Nat) ≤ 1000000000) => (show Calls _ _ #[.pointer (some ⟨q, 0, none⟩), .int .i64 50] w5 _ from h5.incs 50 (by omega) he))
      have HI : Hid (∀ i, (DoT x q p b B i ∨ Own3 q p b i) → w.heap.size ≤ i) := fun i h => h.elim (fun h => h.hi (by omega) (by omega) (by omega) (by omega) hsB) (fun h => DoT.hi (x := x) (B := B) (.inl (.inr h)) (by omega) (by omega) (by omega) (by omega) hsB)
      clear AW LO MY BG HG b0 hbx hx hq hp hbb hxo hx4
      go_loopw [32] (fun v wr => ∃ (j : Nat) (e5 : Int) (M5 : Md) (N5 : Nat) (blk5 : Nat → Nat) (fv5 : Nat → Value) (al5 : Value) (full5 : Bool), j ≤ n ∧ v = .int .i64 j ∧ N5 ≤ j ∧ e5 ≤ 300 * j ∧ Ws wr x q p b e5 ⟨⟨qa, qb, qc, qd⟩, k⟩ M5 N5 B blk5 fv5 al5 false full5 Gk.any ∧ Below w.heap.size w wr) (fun v _ => n - (intOf v).toNat)
      case atStart => exact ⟨0, _, _, _, _, _, _, _, by omega, rfl, Nat.le_refl _, by omega, S4.out, B4.out⟩
      case round =>
        clear S4 B4
        obtain ⟨j, e5, M5, N5, blk5, fv5, al5, full5, hj, rfl, hN5, he5, s5, hb5⟩ := hrel
        by_cases hjn : j < n
        · obtain ⟨g, off, rfl, hg, hcell⟩ := HZ.out.1.at_ hb5 hjn
          have c0 := hcell 0 _ rfl
          have c1 := hcell 1 _ rfl
          have c2 := hcell 2 _ rfl
          have c3 := hcell 3 _ rfl
          have c4 := hcell 4 _ rfl
          simp only [List.length_cons, List.length_nil, Nat.reduceAdd, Nat.add_zero, ← Nat.add_assoc] at c0 c1 c2 c3 c4
          have S5 := Lib.hid s5
          have B5 := Lib.hid hb5
          have hsz5 := hb5.size
          have hjz : (0 : Int) ≤ (j : Int) := by omega
          clear s5 hb5 hcell
          generalize Z j 0 = z0 at *
          generalize Z j 1 = z1 at *
          generalize Z j 2 = z2 at *
          generalize Z j 3 = z3 at *
          generalize Z j 4 = z4 at *
          go_wp2_with (
            go_at_call 10
            refine (DO.out _ _ _ _ _ _ _ _ (S5.out.quiet ((Turns.refl (fun _ => False) wr).alloc _)) (by omega) (by omega) _ _ _ _ _).mono ?_
            rintro r w6 ⟨rfl, ⟨e6, M6, N6, blk6, fv6, al6, full6, he6, hN6, s6⟩, t6⟩
            have m18 : w6.cell? ⟨x, 18, none⟩ = some (.bool false) := (s6.cells.cell 18).trans rfl
            have S6 := Lib.hid s6
            have B6 := Lib.hid ((B5.out.alloc B5.out.size (.cells #[.int .i64 z0, .int .i64 z1, .int .i64 z2, .int .i64 z3, .int .i64 z4] 32)).trans (t6.below (by simp; omega) (fun i hi => HI.out i (.inl hi))))
            clear s6 t6)
          have RE := Lib.hid (fun w7 (h7 : Ws w7 x q p b e6 ⟨⟨qa, qb, qc, qd⟩, k⟩ M6 N6 B blk6 fv6 al6 false full6 Gk.any) => h7.reached (by omega))
          have RG := Lib.hid (fun w1 g es c hb => run_range_map (P := Tryz.prog) w1 45 36 4 g es c Tryz.underlying45 hb)
          go_wp2_with (first
            | (go_at_call 14
               refine (RE.out _ S6.out).mono ?_
               rintro r w7 ⟨g7, is, rfl, pm, hg7, hiff, hlow, hnd, s7, t7⟩
               have hkl : ∀ j, j < is.length → (is.map blk6).getD j 0 = blk6 (is.getD j 0) := fun j hj => by simp [List.getD, hj]
               have hkm : ∀ i, i < N6 → (blk6 i ∈ is.map blk6 ↔ i ∈ is) := fun i hi => ⟨fun h => by
                 obtain ⟨i2, h2, e2⟩ := List.mem_map.1 h
                 rw [← s7.things.inj i2 i (hlow i2 h2) hi e2]; exact h2, fun h => List.mem_map.2 ⟨i, h, rfl⟩⟩
               have hth : ∀ b9 ∈ is.map blk6, ∃ i, i < N6 ∧ b9 = blk6 i := fun b9 h => by
                 obtain ⟨i2, h2, e2⟩ := List.mem_map.1 h
                 exact ⟨i2, hlow i2 h2, e2.symm⟩
               have hll : Hid ((is.map blk6).length = is.length) := List.length_map _
               generalize is.map blk6 = ks at *
               have hrg := RG.out w7 g7 _ _ pm))
          have hm1 := pm.turns ((Turns.refl (fun _ => False) w7).alloc (.mapIter (some g7) ks.length #[] ks.length)) (fun h => h)
          have hi1 := PIter.made w7 g7 ks.length
          have s8 := s7.quiet ((Turns.refl (fun _ => False) w7).alloc (.mapIter (some g7) ks.length #[] ks.length))
          have B8 := (B6.out.trans (t7.below B6.out.size (fun _ h => h.elim))).alloc (Nat.le_trans B6.out.size t7.size) (.mapIter (some g7) ks.length #[] ks.length)
          have hBr := s7.sz
          have hgB : B ≤ g7 := Nat.le_trans S6.out.sz hg7
          have HH := Lib.hid (And.intro hiff (And.intro hlow (And.intro hkl (And.intro hll (And.intro hkm hth)))))
          clear pm hrg s7 t7 hiff hlow hkl hll hnd hkm hth S6 B6 m18
          generalize hrr : w7.heap.size = r9 at *
          go_loopw [] (fun wr => ∃ sn : Array Nat, Ws wr x q p b e6 ⟨⟨qa, qb, qc, qd⟩, k⟩ M6 N6 B blk6 fv6 al6 false full6 Gk.any ∧ PMap wr g7 ks ∧ PIter wr r9 g7 ks.length sn ∧ Below w.heap.size w wr) (fun wr => leftW wr r9 g7)
          case atStart => exact ⟨_, s8, hm1, hi1, B8⟩
          case round =>
            clear s8 hm1 hi1 B8
            obtain ⟨sn, hs, hm, hi, ht⟩ := hrel
            rcases hi.next hm with ⟨-, hnx⟩ | ⟨j9, hj9, hsn, hsh, w4', hw4, hnx⟩
            · have HE := Lib.hid (And.intro hs ht)
              clear hs hm hi ht
              go_wp2_with fail
              go_roundw
              case rel => exact ⟨j + 1, e6, M6, N6, blk6, fv6, al6, full6, by omega, by go_num, by omega, by omega, HE.out.1, HE.out.2⟩
              case measure => simp [intOf]; omega
            · have tq : Turns (fun k => k = r9) wr (Go.ChangeMaps.setBlock w4' r9 (.mapIter (some g7) ks.length (sn.push j9) ks.length)) := by
                refine Turns.setBlock (X := fun k => k = r9) ?_ (fun _ => rfl) _
                rcases hw4 with rfl | rfl
                · exact Turns.refl _ _
                · exact (Turns.refl _ _).drew
              have hr2 : w4'.heap[r9]? = some (.mapIter (some g7) ks.length sn ks.length) := by
                rcases hw4 with rfl | rfl <;> exact hi
              have hi2 := PIter.set (g := g7) (n := ks.length) hr2 (sn.push j9)
              have hs2 := hs.iter hi hBr tq
              have hm2 := hm.turns tq (hi.other hm)
              have hne : r9 ≠ x := hi.apart hs.cells
              have ht2 := ht.trans (tq.below ht.size (fun i h => by omega))
              have hen := hi2.entry hm2 hj9
              have hj2 : j9 < is.length := by rw [← HH.out.2.2.2.1.out]; exact hj9
              have hzz := HH.out.2.2.1 j9 hj2
              rw [hzz] at hnx hen
              have hzm : is.getD j9 0 ∈ is := by simp [List.getD, hj2]
              generalize is.getD j9 0 = z at *
              have hzR := (HH.out.1 z).1 hzm
              have hzN := HH.out.2.1 z hzm
              have HL : Hid (leftW wr r9 g7 = (leftOf (entsFrom ks 0).toArray sn).size ∧ (leftOf (entsFrom ks 0).toArray (sn.push j9)).size < (leftOf (entsFrom ks 0).toArray sn).size) := ⟨hi.left hm, hsh⟩
              generalize Go.ChangeMaps.setBlock w4' r9 (.mapIter (some g7) ks.length (sn.push j9) ks.length) = w3 at *
              have d0 : w3.cell? ⟨blk6 z, 0, none⟩ = some (.int .i64 (M6.form z)) := (hs2.things.here z hzN).cell 0
              have HE := Lib.hid (And.intro hs2 (And.intro hm2 (And.intro hi2 ht2)))
              clear hs hm hi ht tq hr2 hi2 ht2 hsh
              by_cases hf : M6.form z = 3
              · have hl := hs2.things.len3 z hzN hf
                obtain ⟨Af, cf, hfv, hfr⟩ := (hs2.things.rows z hzN).read
                rw [hl] at hfv hfr
                obtain ⟨gf, rfl, hgf, u0, u1⟩ := hfr 0 (by omega)
                simp only [Nat.zero_mul, Nat.zero_add] at u0 u1
                rw [hf] at d0
                have d1 : w3.cell? ⟨blk6 z, 1, none⟩ = some (.slice (some ⟨gf, 0, none⟩) 2 cf) := ((hs2.things.here z hzN).cell 1).trans (by rw [← hfv]; rfl)
                clear hfr
                rcases hv : M6.fld z 0 with y9 | t9
                · have h0 : (M6.fld z 0).Has (Reach M6) := by rw [hv]; trivial
                  rw [hv] at u0 u1
                  simp only [vw, vp] at u0 u1
                  clear hv
                  have AT := Lib.hid (fun w5 (h5 : Thw w5 B blk6 fv6 M6 N6) => And.intro (h5.at_ (j := 0) hzN (by omega) hfv) (h5.at_ (j := 1) hzN (by omega) hfv))
                  have DT := Lib.hid (fun w5 (h5 : Thw w5 B blk6 fv6 M6 N6) => (show w5.cell? ⟨blk6 z, 2, none⟩ = some (.int .u64 (8 * M6.cell z + 1)) from (h5.here z hzN).cell 2))
                  have G0 := Lib.hid (fun w5 K5 (h5 : Ws w5 x q p b e6 ⟨⟨qa, qb, qc, qd⟩, k⟩ M6 N6 B blk6 fv6 al6 false full6 K5) => (show Calls _ _ #[.pointer (some ⟨q, 0, none⟩), .int .u64 (8 * M6.cell z + 1), .int .i64 0] w5 _ from h5.getw hzR hf h0 (j := 0) (by omega)))
                  have G1 := Lib.hid (fun w5 K5 (h5 : Ws w5 x q p b e6 ⟨⟨qa, qb, qc, qd⟩, k⟩ M6 N6 B blk6 fv6 al6 false full6 K5) => (show Calls _ _ #[.pointer (some ⟨q, 0, none⟩), .int .u64 (8 * M6.cell z + 1), .int .i64 1] w5 _ from h5.getw hzR hf h0 (j := 1) (by omega)))
                  have nm0 := hs2.things.named z hzN 0 (by omega)
                  have nm1 := hs2.things.named z hzN 1 (by omega)
                  have W0 := Lib.hid (fun w5 K5 (h5 : Ws w5 x q p b e6 ⟨⟨qa, qb, qc, qd⟩, k⟩ M6 N6 B blk6 fv6 al6 false full6 K5) => h5.word nm0)
                  have W1 := Lib.hid (fun w5 K5 (h5 : Ws w5 x q p b e6 ⟨⟨qa, qb, qc, qd⟩, k⟩ M6 N6 B blk6 fv6 al6 false full6 K5) => h5.word nm1)
                  rw [vg_eq] at W0 W1
                  generalize hwd0 : (M6.fld z 0).wd M6.cell = wd0 at *
                  generalize hwd1 : (M6.fld z 1).wd M6.cell = wd1 at *
                  obtain ⟨y0, hy0⟩ : ∃ y, vw (M6.fld z 0) = .int .u64 y := by cases M6.fld z 0 <;> exact ⟨_, rfl⟩
                  obtain ⟨P0, hP0⟩ : ∃ P, vp blk6 (M6.fld z 0) = .pointer P := by cases M6.fld z 0 <;> exact ⟨_, rfl⟩
                  obtain ⟨y1, hy1⟩ : ∃ y, vw (M6.fld z 1) = .int .u64 y := by cases M6.fld z 1 <;> exact ⟨_, rfl⟩
                  obtain ⟨P1, hP1⟩ : ∃ P, vp blk6 (M6.fld z 1) = .pointer P := by cases M6.fld z 1 <;> exact ⟨_, rfl⟩
                  rw [hy0, hP0, hy1, hP1] at AT
                  rw [hy0, hP0] at W0
                  rw [hy1, hP1] at W1
                  have ne0 : (wd0 != wd0) = false := by simp
                  have ne1 : (wd1 != wd1) = false := by simp
                  have p0 : w3.cell? ⟨x, 0, none⟩ = some (.pointer (some ⟨q, 0, none⟩)) := hs2.cells.cell 0
                  have d2 := DT.out w3 hs2.things
                  clear hs2 hm2 nm0 nm1 hwd0 hwd1 hy0 hP0 hy1 hP1 hf hl
                  go_wp2_with fail
                  go_region_with (first
                    | (go_at_call 18
                       first
                         | refine (G0.out _ _ (HE.out.1.quiet (Turns.refl (fun _ => False) _).drew)).mono ?_
                         | refine (G0.out _ _ HE.out.1).mono ?_
                       rintro r4 w4 ⟨rfl, s4, t4⟩))
                  all_goals
                    have T4 : Turns (Own3 q p b) w3 w4 := by first | exact Turns.of_drew t4 | exact t4
                    have S4 := Lib.hid s4
                    have q0 : w4.cell? ⟨x, 0, none⟩ = some (.pointer (some ⟨q, 0, none⟩)) := s4.cells.cell 0
                    have q2 := DT.out w4 s4.things
                    clear s4 t4 p0 d0 d1 d2 u0 u1
                    go_wp2_with fail
                    go_region_with (first
                      | (go_at_call 18
                         first
                           | refine (G1.out _ _ (S4.out.quiet (Turns.refl (fun _ => False) _).drew)).mono ?_
                           | refine (G1.out _ _ S4.out).mono ?_
                         rintro r5 w5 ⟨rfl, s5, t5⟩))
                    all_goals
                      have T5 : Turns (Own3 q p b) w4 w5 := by first | exact Turns.of_drew t5 | exact t5
                      have S5 := Lib.hid s5
                      obtain ⟨⟨a1, a2, a3, -⟩, ⟨a4, a5, -, -⟩⟩ := AT.out w5 s5.things
                      simp only [Nat.zero_mul, Nat.zero_add, Nat.one_mul, Nat.reduceAdd] at a1 a2 a4 a5
                      clear s5 t5 q0 q2
                      go_wp2_with (first
                        | (go_at_call 19
                           refine (W0.out _ _ S5.out).mono ?_
                           rintro r6 w6' ⟨rfl, s6, t6⟩
                           obtain ⟨⟨-, -, c3', -⟩, ⟨c4', c5', -, -⟩⟩ := AT.out w6' s6.things
                           simp only [Nat.one_mul, Nat.reduceAdd] at c4' c5'
                           have S6' := Lib.hid s6
                           clear s6 a1 a2 a3 a4 a5 W0 S5)
                        | (go_at_call 19
                           refine (W1.out _ _ S6'.out).mono ?_
                           rintro r8 w8' ⟨rfl, s8, t8⟩
                           have S8 := Lib.hid s8
                           clear s8 c3' c4' c5'))
                      have tA : Turns (Own3 q p b) w3 w8' := ((T4.trans T5).then t6 (fun i _ h => h.elim)).then t8 (fun i _ h => h.elim)
                      have mA := HE.out.2.1.turns tA (S8.out.not3 hgB)
                      have iA := HE.out.2.2.1.turns tA (S8.out.not3 hBr)
                      have bA := HE.out.2.2.2.trans (tA.below HE.out.2.2.2.size (fun i hi => HI.out i (.inr hi)))
                      go_roundw
                      case rel => exact ⟨_, S8.out.weaken (fun _ _ _ _ _ => trivial), mA, iA, bA⟩
                      case measure =>
                        rw [iA.left mA, HL.out.1]
                        exact HL.out.2
                · have htN : t9 < N6 := by have := hs2.things.named z hzN 0 (by omega); rw [hv] at this; exact this
                  have hlk := run_lookup_ptr w3 (hs2.things.here t9 htN) hm2 (fun b9 h9 => by obtain ⟨i9, h1, rfl⟩ := HH.out.2.2.2.2.2 b9 h9; exact ⟨_, hs2.things.here i9 h1⟩)
                  rw [hv] at u0 u1
                  simp only [vw, vp] at u0 u1
                  by_cases htR : Reach M6 t9
                  · rw [decide_eq_true ((HH.out.2.2.2.2.1 t9 htN).2 ((HH.out.1 t9).2 htR))] at hlk
                    have h0 : (M6.fld z 0).Has (Reach M6) := by rw [hv]; exact htR
                    clear hv
                    have AT := Lib.hid (fun w5 (h5 : Thw w5 B blk6 fv6 M6 N6) => And.intro (h5.at_ (j := 0) hzN (by omega) hfv) (h5.at_ (j := 1) hzN (by omega) hfv))
                    have DT := Lib.hid (fun w5 (h5 : Thw w5 B blk6 fv6 M6 N6) => (show w5.cell? ⟨blk6 z, 2, none⟩ = some (.int .u64 (8 * M6.cell z + 1)) from (h5.here z hzN).cell 2))
                    have G0 := Lib.hid (fun w5 K5 (h5 : Ws w5 x q p b e6 ⟨⟨qa, qb, qc, qd⟩, k⟩ M6 N6 B blk6 fv6 al6 false full6 K5) => (show Calls _ _ #[.pointer (some ⟨q, 0, none⟩), .int .u64 (8 * M6.cell z + 1), .int .i64 0] w5 _ from h5.getw hzR hf h0 (j := 0) (by omega)))
                    have G1 := Lib.hid (fun w5 K5 (h5 : Ws w5 x q p b e6 ⟨⟨qa, qb, qc, qd⟩, k⟩ M6 N6 B blk6 fv6 al6 false full6 K5) => (show Calls _ _ #[.pointer (some ⟨q, 0, none⟩), .int .u64 (8 * M6.cell z + 1), .int .i64 1] w5 _ from h5.getw hzR hf h0 (j := 1) (by omega)))
                    have nm0 := hs2.things.named z hzN 0 (by omega)
                    have nm1 := hs2.things.named z hzN 1 (by omega)
                    have W0 := Lib.hid (fun w5 K5 (h5 : Ws w5 x q p b e6 ⟨⟨qa, qb, qc, qd⟩, k⟩ M6 N6 B blk6 fv6 al6 false full6 K5) => h5.word nm0)
                    have W1 := Lib.hid (fun w5 K5 (h5 : Ws w5 x q p b e6 ⟨⟨qa, qb, qc, qd⟩, k⟩ M6 N6 B blk6 fv6 al6 false full6 K5) => h5.word nm1)
                    rw [vg_eq] at W0 W1
                    generalize hwd0 : (M6.fld z 0).wd M6.cell = wd0 at *
                    generalize hwd1 : (M6.fld z 1).wd M6.cell = wd1 at *
                    obtain ⟨y0, hy0⟩ : ∃ y, vw (M6.fld z 0) = .int .u64 y := by cases M6.fld z 0 <;> exact ⟨_, rfl⟩
                    obtain ⟨P0, hP0⟩ : ∃ P, vp blk6 (M6.fld z 0) = .pointer P := by cases M6.fld z 0 <;> exact ⟨_, rfl⟩
                    obtain ⟨y1, hy1⟩ : ∃ y, vw (M6.fld z 1) = .int .u64 y := by cases M6.fld z 1 <;> exact ⟨_, rfl⟩
                    obtain ⟨P1, hP1⟩ : ∃ P, vp blk6 (M6.fld z 1) = .pointer P := by cases M6.fld z 1 <;> exact ⟨_, rfl⟩
                    rw [hy0, hP0, hy1, hP1] at AT
                    rw [hy0, hP0] at W0
                    rw [hy1, hP1] at W1
                    have ne0 : (wd0 != wd0) = false := by simp
                    have ne1 : (wd1 != wd1) = false := by simp
                    have p0 : w3.cell? ⟨x, 0, none⟩ = some (.pointer (some ⟨q, 0, none⟩)) := hs2.cells.cell 0
                    have d2 := DT.out w3 hs2.things
                    clear hs2 hm2 nm0 nm1 hwd0 hwd1 hy0 hP0 hy1 hP1 hf hl
                    go_wp2_with fail
                    go_region_with (first
                      | (go_at_call 18
                         first
                           | refine (G0.out _ _ (HE.out.1.quiet (Turns.refl (fun _ => False) _).drew)).mono ?_
                           | refine (G0.out _ _ HE.out.1).mono ?_
                         rintro r4 w4 ⟨rfl, s4, t4⟩))
                    all_goals
                      have T4 : Turns (Own3 q p b) w3 w4 := by first | exact Turns.of_drew t4 | exact t4
                      have S4 := Lib.hid s4
                      have q0 : w4.cell? ⟨x, 0, none⟩ = some (.pointer (some ⟨q, 0, none⟩)) := s4.cells.cell 0
                      have q2 := DT.out w4 s4.things
                      clear s4 t4 p0 d0 d1 d2 u0 u1
                      go_wp2_with fail
                      go_region_with (first
                        | (go_at_call 18
                           first
                             | refine (G1.out _ _ (S4.out.quiet (Turns.refl (fun _ => False) _).drew)).mono ?_
                             | refine (G1.out _ _ S4.out).mono ?_
                           rintro r5 w5 ⟨rfl, s5, t5⟩))
                      all_goals
                        have T5 : Turns (Own3 q p b) w4 w5 := by first | exact Turns.of_drew t5 | exact t5
                        have S5 := Lib.hid s5
                        obtain ⟨⟨a1, a2, a3, -⟩, ⟨a4, a5, -, -⟩⟩ := AT.out w5 s5.things
                        simp only [Nat.zero_mul, Nat.zero_add, Nat.one_mul, Nat.reduceAdd] at a1 a2 a4 a5
                        clear s5 t5 q0 q2
                        go_wp2_with (first
                          | (go_at_call 19
                             refine (W0.out _ _ S5.out).mono ?_
                             rintro r6 w6' ⟨rfl, s6, t6⟩
                             obtain ⟨⟨-, -, c3', -⟩, ⟨c4', c5', -, -⟩⟩ := AT.out w6' s6.things
                             simp only [Nat.one_mul, Nat.reduceAdd] at c4' c5'
                             have S6' := Lib.hid s6
                             clear s6 a1 a2 a3 a4 a5 W0 S5)
                          | (go_at_call 19
                             refine (W1.out _ _ S6'.out).mono ?_
                             rintro r8 w8' ⟨rfl, s8, t8⟩
                             have S8 := Lib.hid s8
                             clear s8 c3' c4' c5'))
                        have tA : Turns (Own3 q p b) w3 w8' := ((T4.trans T5).then t6 (fun i _ h => h.elim)).then t8 (fun i _ h => h.elim)
                        have mA := HE.out.2.1.turns tA (S8.out.not3 hgB)
                        have iA := HE.out.2.2.1.turns tA (S8.out.not3 hBr)
                        have bA := HE.out.2.2.2.trans (tA.below HE.out.2.2.2.size (fun i hi => HI.out i (.inr hi)))
                        go_roundw
                        case rel => exact ⟨_, S8.out.weaken (fun _ _ _ _ _ => trivial), mA, iA, bA⟩
                        case measure =>
                          rw [iA.left mA, HL.out.1]
                          exact HL.out.2
                  · rw [decide_eq_false (fun h => htR ((HH.out.1 t9).1 ((HH.out.2.2.2.2.1 t9 htN).1 h)))] at hlk
                    clear hv hs2 hm2 hf hl
                    generalize blk6 z = bz at *
                    go_wp2_with fail
                    go_roundw
                    case rel => exact ⟨_, HE.out.1, HE.out.2.1, HE.out.2.2.1, HE.out.2.2.2⟩
                    case measure =>
                      rw [HE.out.2.2.1.left HE.out.2.1, HL.out.1]
                      exact HL.out.2
              · have hfn : (M6.form z != 3) = true := by simpa using hf
                clear hf hs2 hm2
                generalize M6.form z = ft at *
                generalize blk6 z = bz at *
                go_wp2_with fail
                go_roundw
                case rel => exact ⟨_, HE.out.1, HE.out.2.1, HE.out.2.2.1, HE.out.2.2.2⟩
                case measure =>
                  rw [HE.out.2.2.1.left HE.out.2.1, HL.out.1]
                  exact HL.out.2
        · obtain rfl : j = n := by omega
          have S5 := Lib.hid s5
          have B5 := Lib.hid hb5
          clear s5 hb5
          have m18 : wr.cell? ⟨x, 18, none⟩ = some (.bool false) := (S5.out.cells.cell 18).trans rfl
          go_wp2_with fail
          go_ret
          exact ⟨rfl, B5.out⟩
    · have hld : decide ((n : Int) > 300) = true := by simp; omega
      rw [hld] at LO
      clear hs hld
      go_enter Tryz.func5, Tryz.ntmps5
      go_wp2_with (first
        | (go_at_call 6
           refine (AW.out _ b0).mono ?_
           rintro e w1 ⟨rfl, b1⟩
           have hb1 := hbx.below b1 hbx.lt
           have o0 : w1.cell? ⟨w.heap.size, 0, none⟩ = some (.int .i64 qa) := hb1.cell 0
           have o1 : w1.cell? ⟨w.heap.size, 1, none⟩ = some (.int .i64 qb) := hb1.cell 1
           have o2 : w1.cell? ⟨w.heap.size, 2, none⟩ = some (.int .i64 qc) := hb1.cell 2
           have o3 : w1.cell? ⟨w.heap.size, 3, none⟩ = some (.int .i64 qd) := hb1.cell 3
           have o4 : w1.cell? ⟨w.heap.size, 4, none⟩ = some (.int .i64 k) := hb1.cell 4
           have B1 := b0.trans (b1.mono b0.size)
           clear hb1 b1 hbx b0)
        | (go_at_call 7
           refine (MY.out _).mono ?_
           rintro e w2 ⟨rfl, t2⟩
           have B2 := B1.trans (t2.below B1.size (fun _ h => h.elim))
           clear t2 o0 o1 o2 o3 o4)
        | (go_at_call 8
           refine (LO.out _).mono ?_
           rintro e w3 ⟨rfl, rfl⟩)
        | (go_at_call 6
           refine (AW.out _ B2).mono ?_
           rintro e w4 ⟨rfl, b4⟩))
      go_ret
      exact ⟨rfl, B2.trans (b4.mono B2.size)⟩
  · have MY := Lib.hid (fun w1 => (may_any qa qb qc qd k w1).mono fun e w' h => And.intro (h.1.ne hs) h.2)
    clear hs
    go_enter Tryz.func5, Tryz.ntmps5
    go_wp2_with (first
      | (go_at_call 6
         refine (AW.out _ b0).mono ?_
         rintro e w1 ⟨rfl, b1⟩
         have hb1 := hbx.below b1 hbx.lt
         have o0 : w1.cell? ⟨w.heap.size, 0, none⟩ = some (.int .i64 qa) := hb1.cell 0
         have o1 : w1.cell? ⟨w.heap.size, 1, none⟩ = some (.int .i64 qb) := hb1.cell 1
         have o2 : w1.cell? ⟨w.heap.size, 2, none⟩ = some (.int .i64 qc) := hb1.cell 2
         have o3 : w1.cell? ⟨w.heap.size, 3, none⟩ = some (.int .i64 qd) := hb1.cell 3
         have o4 : w1.cell? ⟨w.heap.size, 4, none⟩ = some (.int .i64 k) := hb1.cell 4
         have B1 := b0.trans (b1.mono b0.size)
         clear hb1 b1 hbx b0)
      | (go_at_call 7
         refine (MY.out _).mono ?_
         rintro e w2 ⟨rfl, t2⟩
         have B2 := B1.trans (t2.below B1.size (fun _ h => h.elim))
         clear t2 o0 o1 o2 o3 o4)
      | (go_at_call 6
         refine (AW.out _ B2).mono ?_
         rintro e w4 ⟨rfl, b4⟩))
    go_ret
    exact ⟨rfl, B2.trans (b4.mono B2.size)⟩
end Go.Proofs.YtfogfafanfiffaaGreatDoor
