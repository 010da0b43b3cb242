/- The law TreadFlip, walked. -/
import Derived.Test.YtclcnepkgjcmcaaGreatDoorQ48
namespace Go.Proofs.YtclcnepkgjcmcaaGreatDoor
open Go.RowKit Go.ChangeShapes Go.WideShapes Go.ChangeAt

set_option maxHeartbeats 8000000 in
set_option maxRecDepth 100000 in
theorem flip_walk (qa qb qc qd k : Int) (A : Option Addr) (n c : Nat) (Z : Nat → Nat → Int) (hn : n ≤ maxLen) (A2 : Option Addr) (n2 c2 : Nat) (Z2 : Nat → Nat → Int) (hn2 : n2 ≤ maxLen) (w : World) (hz : CameRows w [.i64, .i64, .i64, .i64, .i64] A n Z) (hz2 : CameRows w [.i64, .i64, .i64, .i64, .i64] A2 n2 Z2) (hT : Tab w) :
    Calls Tryz.prog 3 #[.agg #[.int .i64 qa, .int .i64 qb, .int .i64 qc, .int .i64 qd, .int .i64 k], .slice A n c, .slice A2 n2 c2] w fun e w' => e = .returned (.bool true) ∧ Below w.heap.size w w' := by
  have AW := Lib.hid (fun w1 (h : Below w.heap.size w w1) => awake_any w1 (hT.below h))
  have LO := Lib.hid (fun w1 => long_any A n c w1 hn)
  have LO2 := Lib.hid (fun w1 => long_any A2 n2 c2 w1 hn2)
  have hbx := Lies.made w 24 #[.int .i64 qa, .int .i64 qb, .int .i64 qc, .int .i64 qd, .int .i64 k]
  have b0 := (Below.refl w.heap.size w).alloc (Nat.le_refl _) (.cells #[.int .i64 qa, .int .i64 qb, .int .i64 qc, .int .i64 qd, .int .i64 k] 24)
  have HZ := Lib.hid (And.intro hz (And.intro hz2 hT))
  have hmx := hn
  have hmx2 := hn2
  unfold maxLen at hmx hmx2
  clear hz hz2 hT hn hn2
  by_cases hs : Small qa qb qc qd k
  · have MY := Lib.hid (fun w1 => (may_any qa qb qc qd k w1).mono fun e w' h => And.intro (h.1.eq hs) h.2)
    by_cases hl : n ≤ 300
    · have hld : decide ((n : Int) > 300) = false := by simp; omega
      rw [hld] at LO
      by_cases hl2 : n2 ≤ 300
      · have hld2 : decide ((n2 : Int) > 300) = false := by simp; omega
        rw [hld2] at LO2
        have hg0 := small_ok hs
        have BG := Lib.hid (fun w1 (h : Below w.heap.size w w1) => begin_any hg0 (fun _ => 0) w1 (HZ.out.2.2.below h))
        have HG := Lib.hid hg0
        clear hs hg0 hld hld2
        go_enter Tryz.func3, Tryz.ntmps3
        go_wp2_with (first
          | (go_at_call 4
             refine (AW.out _ b0).mono ?_
             rintro e w1 ⟨rfl, b1⟩
             have hb1 := hbx.below b1 hbx.lt
             have o0 : w1.cell? ⟨w.heap.size, 0, none⟩ = some (.int .i64 qa) := hb1.cell 0
             have o1 : w1.cell? ⟨w.heap.size, 1, none⟩ = some (.int .i64 qb) := hb1.cell 1
             have o2 : w1.cell? ⟨w.heap.size, 2, none⟩ = some (.int .i64 qc) := hb1.cell 2
             have o3 : w1.cell? ⟨w.heap.size, 3, none⟩ = some (.int .i64 qd) := hb1.cell 3
             have o4 : w1.cell? ⟨w.heap.size, 4, none⟩ = some (.int .i64 k) := hb1.cell 4
             have B1 := Lib.hid (b0.trans (b1.mono b0.size))
             have H1 := Lib.hid hb1
             clear hb1 b1)
          | (go_at_call 5
             refine (MY.out _).mono ?_
             rintro e w2 ⟨rfl, t2⟩
             have hb2 := H1.out.turns t2 (fun h => h)
             have o0' : w2.cell? ⟨w.heap.size, 0, none⟩ = some (.int .i64 qa) := hb2.cell 0
             have o1' : w2.cell? ⟨w.heap.size, 1, none⟩ = some (.int .i64 qb) := hb2.cell 1
             have o2' : w2.cell? ⟨w.heap.size, 2, none⟩ = some (.int .i64 qc) := hb2.cell 2
             have o3' : w2.cell? ⟨w.heap.size, 3, none⟩ = some (.int .i64 qd) := hb2.cell 3
             have o4' : w2.cell? ⟨w.heap.size, 4, none⟩ = some (.int .i64 k) := hb2.cell 4
             have B2 := Lib.hid (B1.out.trans (t2.below B1.out.size (fun _ h => h.elim)))
             have hlt2 := hb2.lt
             have HB2 := Lib.hid hb2
             clear hb2 t2 o0 o1 o2 o3 o4)
          | (go_at_call 6
             refine (LO.out _).mono ?_
             rintro e w3 ⟨rfl, rfl⟩)
          | (go_at_call 6
             refine (LO2.out _).mono ?_
             rintro e w3 ⟨rfl, rfl⟩)
          | (go_at_call 7
             refine (BG.out _ B2.out).mono ?_
             rintro e w4 ⟨x, q, p, b, rfl, hc, hTr, b4, hx, hq, hp, hbb, hxo, hx4⟩
             have S4 := Lib.hid (Ws.first HG.out (fun _ => 0) (fun _ => .slice none 0 0) hc hTr hxo)
             have B4 := Lib.hid (show Base w w4 [.int .i64 qa, .int .i64 qb, .int .i64 qc, .int .i64 qd, .int .i64 k] from ⟨B2.out.trans (b4.mono B2.out.size), HB2.out.below b4 HB2.out.lt⟩)
             clear hc hTr b4 o0' o1' o2' o3' o4'))
        have hxg : x ≠ 0 := fun e => by have := HZ.out.2.2.1; have := B2.out.size; omega
        have hsB : w.heap.size + 1 ≤ w4.heap.size := B4.out.2.lt
        have hsx := B2.out.size
        generalize hBB : w4.heap.size = B at *
        have DO := Lib.hid (fun (w5 : World) (e5 : Int) M5 N5 blk5 fv5 al5 full5 (h5 : Ws w5 x q p b e5 ⟨⟨qa, qb, qc, qd⟩, k⟩ M5 N5 B blk5 fv5 al5 false full5 Gk.any) (hp : Plain M5 N5) (hN : N5 ≤ 1000) (he : e5 ≤ 900000000) => fun k0 a0 b0 c0 n0 h7 => h5.do_plain hp hxg hN he k0 a0 b0 c0 n0 h7)
        have HI : Hid (∀ (w5 : World) i, (DoT w5 x q p b B i ∨ Own3 q p b i) → w.heap.size + 1 ≤ i) := fun w5 i h => h.elim (fun h => h.hi (by omega) (by omega) (by omega) (by omega) hsB) (fun h => DoT.hi (w := w5) (x := x) (B := B) (.inl (.inr h)) (by omega) (by omega) (by omega) (by omega) hsB)
        clear AW LO LO2 MY BG b0 hbx hx hq hp hbb hxo hx4 B1 H1 B2 HB2
        go_loopw [41] (fun v wr => ∃ (j : Nat) (e5 : Int) (M5 : Md) (N5 : Nat) (blk5 : Nat → Nat) (fv5 : Nat → Value) (al5 : Value) (full5 : Bool), j ≤ n ∧ v = .int .i64 j ∧ N5 ≤ j ∧ e5 ≤ 300 * j ∧ Plain M5 N5 ∧ Ws wr x q p b e5 ⟨⟨qa, qb, qc, qd⟩, k⟩ M5 N5 B blk5 fv5 al5 false full5 Gk.any ∧ Base w wr [.int .i64 qa, .int .i64 qb, .int .i64 qc, .int .i64 qd, .int .i64 k]) (fun v _ => n - (intOf v).toNat)
        case atStart => exact ⟨0, _, _, _, _, _, _, _, by omega, rfl, Nat.le_refl _, by omega, (fun i hi => absurd hi (by omega)), S4.out, B4.out⟩
        case round =>
          clear S4 B4
          obtain ⟨j, e5, M5, N5, blk5, fv5, al5, full5, hj, rfl, hN5, he5, hp5, s5, hb5⟩ := hrel
          by_cases hjn : j < n
          · obtain ⟨g, off, rfl, hg, hcell⟩ := HZ.out.1.at_ hb5.1 hjn
            have c0 := hcell 0 _ rfl
            have c1 := hcell 1 _ rfl
            have c2 := hcell 2 _ rfl
            have c3 := hcell 3 _ rfl
            have c4 := hcell 4 _ rfl
            simp only [List.length_cons, List.length_nil, Nat.reduceAdd, Nat.add_zero, ← Nat.add_assoc] at c0 c1 c2 c3 c4
            have S5 := Lib.hid s5
            have B5 := Lib.hid hb5
            have P5 := Lib.hid hp5
            have hsz5 := hb5.1.size
            have hjz : (0 : Int) ≤ (j : Int) := by omega
            clear s5 hb5 hcell hp5
            generalize Z j 0 = z0 at *
            generalize Z j 1 = z1 at *
            generalize Z j 2 = z2 at *
            generalize Z j 3 = z3 at *
            generalize Z j 4 = z4 at *
            by_cases h7 : z0 = 7
            · have hb7 : (z0 != 7) = false := by simpa using h7
              clear h7
              go_wp2_with fail
              go_roundw
              case rel => exact ⟨j + 1, e5, M5, N5, blk5, fv5, al5, full5, by omega, by go_num, by omega, by omega, P5.out, S5.out.quiet ((Turns.refl (fun _ => False) wr).alloc _), B5.out.quiet ((Turns.refl (fun _ => False) wr).alloc _)⟩
              case measure => simp [intOf]; omega
            · have hb7 : (z0 != 7) = true := by simpa using h7
              have H7 := Lib.hid h7
              clear h7
              go_wp2_with (
                go_at_call 8
                refine (DO.out _ _ _ _ _ _ _ _ (S5.out.quiet ((Turns.refl (fun _ => False) wr).alloc _)) P5.out (by omega) (by omega) _ _ _ _ _ H7.out).mono ?_
                rintro r w6 ⟨rfl, ⟨e6, M6, N6, blk6, fv6, al6, full6, he6, hN6, hp6, s6⟩, t6⟩
                have S6 := Lib.hid s6
                have P6 := Lib.hid hp6
                have B6 := Lib.hid ((B5.out.quiet ((Turns.refl (fun _ => False) wr).alloc (.cells #[.int .i64 z0, .int .i64 z1, .int .i64 z2, .int .i64 z3, .int .i64 z4] 32))).turns t6 (fun i hi => HI.out _ i (.inl hi)))
                clear s6 t6 hp6)
              go_roundw
              case rel => exact ⟨j + 1, e6, M6, N6, blk6, fv6, al6, full6, by omega, by go_num, by omega, by omega, P6.out, S6.out, B6.out⟩
              case measure => simp [intOf]; omega
          · obtain rfl : j = n := by omega
            obtain ⟨nn0, hr0⟩ := R2.start s5 (by omega) hb5
            have R0 := Lib.hid hr0
            have P5 := Lib.hid hp5
            clear s5 hb5 hr0 hp5
            go_wp2_with fail
            go_loopw [] (fun wr => ∃ nn, R2 w [.int .i64 qa, .int .i64 qb, .int .i64 qc, .int .i64 qd, .int .i64 k] x q p b ⟨⟨qa, qb, qc, qd⟩, k⟩ M5 N5 B blk5 fv5 al5 full5 wr nn) (fun wr => leastN (R2 w [.int .i64 qa, .int .i64 qb, .int .i64 qc, .int .i64 qd, .int .i64 k] x q p b ⟨⟨qa, qb, qc, qd⟩, k⟩ M5 N5 B blk5 fv5 al5 full5 wr))
            case atStart => exact ⟨nn0, R0.out⟩
            case round =>
              clear R0
              obtain ⟨nn, hnn, e6, he6, s6, b6⟩ := leastN_get (P := R2 w [.int .i64 qa, .int .i64 qb, .int .i64 qc, .int .i64 qd, .int .i64 k] x q p b ⟨⟨qa, qb, qc, qd⟩, k⟩ M5 N5 B blk5 fv5 al5 full5 wr) hrel
              clear hrel
              have HNN := Lib.hid hnn
              clear hnn
              obtain ⟨m, -, s7⟩ := s6.some_ (fun H _ => H.mrk)
              have MK := Lib.hid (s7.marks (fun _ _ _ _ h => h.2))
              have p0 : wr.cell? ⟨x, 0, none⟩ = some (.pointer (some ⟨q, 0, none⟩)) := s7.cells.cell 0
              have S7 := Lib.hid s7
              have B7 := Lib.hid b6
              clear s6 s7 b6
              cases m
              · obtain ⟨cc, -, s8⟩ := S7.out.some_ (fun H _ => H.cyc)
                have s9 : Ws wr x q p b e6 ⟨⟨qa, qb, qc, qd⟩, k⟩ M5 N5 B blk5 fv5 al5 false full5 (fun H _ _ _ => H.mrk = false ∧ H.cyc = cc) := s8.weaken (fun _ _ _ _ h => ⟨h.1.2, h.2⟩)
                have hrd := s9.all.read
                rw [show ((List.range N5).map blk5).length = N5 by simp] at hrd
                obtain ⟨A5, q5, hal, -⟩ := hrd
                subst hal
                have RE := Lib.hid (s9.reached (by omega))
                have hBw := s9.sz
                have CY := Lib.hid (fun w1 (s1 : Ws w1 x q p b e6 ⟨⟨qa, qb, qc, qd⟩, k⟩ M5 N5 B blk5 fv5 (.slice A5 N5 q5) false full5 (fun H _ _ _ => H.mrk = false ∧ H.cyc = cc)) => And.intro (s1.cycs (fun _ _ _ _ h => h.2)) (s1.inc1 (by omega)))
                have DO3 := Lib.hid (fun (w5 : World) (e5 : Int) M6 N6 blk6 fv6 al6 full6 (h5 : Ws w5 x q p b e5 ⟨⟨qa, qb, qc, qd⟩, k⟩ M6 N6 B blk6 fv6 al6 false full6 (K3 cc (Reach M5) N5 N6)) (hp : Plain M6 N6) (hl : N5 ≤ N6) (hN : N6 ≤ 1000) (he : e5 ≤ 900000000) => fun k0 a0 b0 c0 n0 h7 => Ws.do_fk ((h5.weaken (fun _ _ _ _ h => K3.fk h)).low_) hp hl hxg hN he k0 a0 b0 c0 n0 h7)
                have hB7 := B7.out.2.lt
                clear s8 s9 S7 HNN
                go_wp2_with (first
                  | (go_at_call 9
                     refine MK.out.mono ?_
                     rintro r w8 ⟨rfl, rfl⟩)
                  | (go_at_call 11
                     refine RE.out.mono ?_
                     rintro r w8 ⟨g, is, rfl, pm, hgs, hiff, hlow, hnd, s8, t8⟩
                     have p8 : w8.cell? ⟨x, 0, none⟩ = some (.pointer (some ⟨q, 0, none⟩)) := s8.cells.cell 0
                     have p17 : w8.cell? ⟨x, 17, none⟩ = some (.slice A5 N5 q5) := (s8.cells.cell 17).trans rfl
                     have S8 := Lib.hid s8
                     have B8 := Lib.hid (B7.out.quiet t8)
                     have HM := Lib.hid (And.intro pm (And.intro hiff (And.intro hlow hnd)))
                     have hgB : B ≤ g := by omega
                     clear s8 t8 pm hiff hlow hnd)
                  | (go_at_call 12
                     refine (CY.out _ S8.out).1.mono ?_
                     rintro r w9 ⟨rfl, rfl⟩)
                  | (go_at_call 10
                     refine (CY.out _ S8.out).2.mono ?_
                     rintro r w9 ⟨rfl, s9, t9⟩
                     have S9 := Lib.hid (And.intro (s9.weaken (fun _ _ _ _ h => K3.flip h)) (And.intro (HM.out.1.turns t9 (S8.out.not3 hgB)) (B8.out.turns t9 (fun i hi => HI.out w i (.inr hi)))))
                     clear s9 t9 p8 p17))
                go_loopw [81] (fun v wr => ∃ (j : Nat) (e6 : Int) (M6 : Md) (N6 : Nat) (blk6 : Nat → Nat) (fv6 : Nat → Value) (al6 : Value) (full6 : Bool), j ≤ n2 ∧ v = .int .i64 j ∧ (N5 ≤ N6 ∧ N6 ≤ N5 + j) ∧ e6 ≤ 8000000 + 300 * j ∧ Plain M6 N6 ∧ (∀ i, i < N5 → blk6 i = blk5 i) ∧ Ws wr x q p b e6 ⟨⟨qa, qb, qc, qd⟩, k⟩ M6 N6 B blk6 fv6 al6 false full6 (K3 cc (Reach M5) N5 N6) ∧ PMap wr g (is.map blk5) ∧ Base w wr [.int .i64 qa, .int .i64 qb, .int .i64 qc, .int .i64 qd, .int .i64 k]) (fun v _ => n2 - (intOf v).toNat)
                case atStart => exact ⟨0, _, M5, N5, blk5, fv5, _, _, by omega, rfl, ⟨Nat.le_refl _, by omega⟩, by omega, P5.out, fun _ _ => rfl, S9.out.1, S9.out.2.1, S9.out.2.2⟩
                case round =>
                  clear S9 S8 RE CY MK B8 B7
                  obtain ⟨j2, e6', M6, N6, blk6, fv6, al6, full6, hj2, rfl, hN6, he6', hp6, hbk, s6, pm6, hb6⟩ := hrel
                  by_cases hjn2 : j2 < n2
                  · obtain ⟨g2, off2, rfl, hg2, hcell⟩ := HZ.out.2.1.at_ hb6.1 hjn2
                    have c0 := hcell 0 _ rfl
                    have c1 := hcell 1 _ rfl
                    have c2 := hcell 2 _ rfl
                    have c3 := hcell 3 _ rfl
                    have c4 := hcell 4 _ rfl
                    simp only [List.length_cons, List.length_nil, Nat.reduceAdd, Nat.add_zero, ← Nat.add_assoc] at c0 c1 c2 c3 c4
                    have S6 := Lib.hid (And.intro s6 (And.intro pm6 hb6))
                    have P6 := Lib.hid (And.intro hp6 hbk)
                    have hsz6 := hb6.1.size
                    have hj2z : (0 : Int) ≤ (j2 : Int) := by omega
                    clear s6 pm6 hb6 hp6 hbk hcell
                    generalize Z2 j2 0 = z0 at *
                    generalize Z2 j2 1 = z1 at *
                    generalize Z2 j2 2 = z2 at *
                    generalize Z2 j2 3 = z3 at *
                    generalize Z2 j2 4 = z4 at *
                    by_cases h6 : z0 = 6
                    · have h6b : (z0 == 6) = true := by simpa using h6
                      clear h6
                      go_wp2_with fail
                      go_roundw
                      case rel => exact ⟨j2 + 1, e6', M6, N6, blk6, fv6, al6, full6, by omega, by go_num, by omega, by omega, P6.out.1, P6.out.2, S6.out.1.quiet ((Turns.refl (fun _ => False) wr).alloc _), S6.out.2.1.turns ((Turns.refl (fun _ => False) wr).alloc _) (fun h => h), S6.out.2.2.quiet ((Turns.refl (fun _ => False) wr).alloc _)⟩
                      case measure => simp [intOf]; omega
                    · have h6b : (z0 == 6) = false := by simpa using h6
                      clear h6
                      by_cases h7 : z0 = 7
                      · have h7b : (z0 == 7) = true := by simpa using h7
                        clear h7
                        go_wp2_with fail
                        go_roundw
                        case rel => exact ⟨j2 + 1, e6', M6, N6, blk6, fv6, al6, full6, by omega, by go_num, by omega, by omega, P6.out.1, P6.out.2, S6.out.1.quiet ((Turns.refl (fun _ => False) wr).alloc _), S6.out.2.1.turns ((Turns.refl (fun _ => False) wr).alloc _) (fun h => h), S6.out.2.2.quiet ((Turns.refl (fun _ => False) wr).alloc _)⟩
                        case measure => simp [intOf]; omega
                      · have h7b : (z0 == 7) = false := by simpa using h7
                        have H7 := Lib.hid h7
                        clear h7
                        go_wp2_with (
                          go_at_call 8
                          have sq := S6.out.1.quiet ((Turns.refl (fun _ => False) wr).alloc (.cells #[.int .i64 z0, .int .i64 z1, .int .i64 z2, .int .i64 z3, .int .i64 z4] 32))
                          have pq := S6.out.2.1.turns ((Turns.refl (fun _ => False) wr).alloc (.cells #[.int .i64 z0, .int .i64 z1, .int .i64 z2, .int .i64 z3, .int .i64 z4] 32)) (fun h => h)
                          have ndo := DoT.not_map sq pq hgB
                          refine (DO3.out _ _ _ _ _ _ _ _ sq P6.out.1 (by omega) (by omega) (by omega) _ _ _ _ _ H7.out).mono ?_
                          rintro r w7 ⟨rfl, ⟨e7, M7, N7, blk7, fv7, al7, full7, he7, hN7, hp7, hbk7, s7⟩, t7⟩
                          have m18 : w7.cell? ⟨x, 18, none⟩ = some (.bool false) := (s7.cells.cell 18).trans rfl
                          have p7 : w7.cell? ⟨x, 0, none⟩ = some (.pointer (some ⟨q, 0, none⟩)) := s7.cells.cell 0
                          have S7 := Lib.hid (And.intro s7 (And.intro (pq.turns t7 ndo) ((S6.out.2.2.quiet ((Turns.refl (fun _ => False) wr).alloc (.cells #[.int .i64 z0, .int .i64 z1, .int .i64 z2, .int .i64 z3, .int .i64 z4] 32))).turns t7 (fun i hi => HI.out _ i (.inl hi)))))
                          have P7 := Lib.hid (And.intro hp7 (fun (i : Nat) (h : i < N5) => (hbk7 i (by omega)).trans (P6.out.2 i h)))
                          clear s7 t7 hp7 hbk7 sq pq ndo)
                        obtain ⟨c', -, s8⟩ := S7.out.1.some_ (fun H _ => H.cyc)
                        have CY := Lib.hid (s8.cycs (fun _ _ _ _ h => h.2))
                        by_cases hcc : c' = cc
                        · have hcb : (c' != cc) = false := by simpa using hcc
                          have S8 := Lib.hid (s8.weaken (fun H R A D h => K3.of_fk h.1.1 (h.2.trans hcc)))
                          clear s8 hcc
                          go_wp2_with (
                            go_at_call 12
                            refine CY.out.mono ?_
                            rintro r w8 ⟨rfl, rfl⟩)
                          go_roundw
                          case rel => exact ⟨j2 + 1, e7, M7, N7, blk7, fv7, al7, full7, by omega, by go_num, by omega, by omega, P7.out.1, P7.out.2, S8.out, S7.out.2.1, S7.out.2.2⟩
                          case measure => simp [intOf]; omega
                        · have hcb : (c' != cc) = true := by simpa using hcc
                          clear s8 hcc
                          go_wp2_with (
                            go_at_call 12
                            refine CY.out.mono ?_
                            rintro r w8 ⟨rfl, rfl⟩)
                          go_ret
                          exact ⟨rfl, S7.out.2.2.1⟩
                  · obtain rfl : j2 = n2 := by omega
                    have hLm : ∀ i, i ∈ (is ++ List.range' N5 (N6 - N5)) ↔ (Reach M5 i ∨ (N5 ≤ i ∧ i < N6)) := fun i => by rw [mem_live, show N5 + (N6 - N5) = N6 by omega, HM.out.2.1 i]
                    obtain ⟨nn1, hr1⟩ := R4.start s6 hLm (by omega) pm6 hb6
                    have R1 := Lib.hid hr1
                    have HBK := Lib.hid hbk
                    have P6 := Lib.hid hp6
                    clear s6 pm6 hb6 hr1 hbk hp6 hLm
                    go_wp2_with fail
                    go_loopw [] (fun wr => ∃ nn, R4 w [.int .i64 qa, .int .i64 qb, .int .i64 qc, .int .i64 qd, .int .i64 k] x q p b ⟨⟨qa, qb, qc, qd⟩, k⟩ M6 N6 B blk6 fv6 al6 full6 cc (is ++ List.range' N5 (N6 - N5)) g (is.map blk5) wr nn) (fun wr => leastN (R4 w [.int .i64 qa, .int .i64 qb, .int .i64 qc, .int .i64 qd, .int .i64 k] x q p b ⟨⟨qa, qb, qc, qd⟩, k⟩ M6 N6 B blk6 fv6 al6 full6 cc (is ++ List.range' N5 (N6 - N5)) g (is.map blk5) wr))
                    case atStart => exact ⟨nn1, R1.out⟩
                    case round =>
                      clear R1
                      obtain ⟨nn, hnn, e7, he7, s7, pm7, b7⟩ := leastN_get (P := R4 w [.int .i64 qa, .int .i64 qb, .int .i64 qc, .int .i64 qd, .int .i64 k] x q p b ⟨⟨qa, qb, qc, qd⟩, k⟩ M6 N6 B blk6 fv6 al6 full6 cc (is ++ List.range' N5 (N6 - N5)) g (is.map blk5) wr) hrel
                      clear hrel
                      have HNN := Lib.hid hnn
                      clear hnn
                      obtain ⟨c', -, s8⟩ := s7.some_ (fun H _ => H.cyc)
                      have CY := Lib.hid (s8.cycs (fun _ _ _ _ h => h.2))
                      have p0 : wr.cell? ⟨x, 0, none⟩ = some (.pointer (some ⟨q, 0, none⟩)) := s8.cells.cell 0
                      by_cases hcc : c' = cc
                      · have hcb : (c' == cc) = true := by simpa using hcc
                        have INC := Lib.hid ((s8.weaken (fun H R A D h => (⟨h.1, h.2.trans hcc⟩ : K4 cc (is ++ List.range' N5 (N6 - N5)) nn H R A D ∧ H.cyc = cc))).inc1 (by omega))
                        have N7 := Lib.hid (s8.not3 hgB)
                        have B7 := Lib.hid (And.intro pm7 b7)
                        clear s7 s8 pm7 b7 hcc
                        go_wp2_with (first
                          | (go_at_call 12
                             refine CY.out.mono ?_
                             rintro r w8 ⟨rfl, rfl⟩)
                          | (go_at_call 10
                             refine INC.out.mono ?_
                             rintro r w8 ⟨rfl, s8, t8⟩
                             have S8 := Lib.hid (And.intro s8 (And.intro (B7.out.1.turns t8 N7.out) (B7.out.2.turns t8 (fun i hi => HI.out w i (.inr hi)))))
                             clear s8 t8))
                        have HS := R4.step P6.out he7 S8.out.1 S8.out.2.1 S8.out.2.2
                        go_roundw
                        case rel => exact ⟨_, HS.2⟩
                        case measure => exact leastN_lt HNN.out HS.1 HS.2
                      · have hcb : (c' == cc) = false := by simpa using hcc
                        have s9 : Ws wr x q p b e7 ⟨⟨qa, qb, qc, qd⟩, k⟩ M6 N6 B blk6 fv6 al6 false full6 (fun H _ A _ => H.mrk = false ∧ ∀ i, i ∈ (is ++ List.range' N5 (N6 - N5)) ↔ A i) := s8.weaken (fun _ _ _ _ h => ⟨h.1.2.1 (by rw [h.2]; exact hcc), h.1.2.2⟩)
                        have hrd := s9.all.read
                        rw [show ((List.range N6).map blk6).length = N6 by simp] at hrd
                        obtain ⟨A6, q6, hal, hcells⟩ := hrd
                        clear hcells
                        subst hal
                        have hroom : N6 ≤ q6 := by simpa using s9.all.room
                        have hnd9 := Lib.hid (show (is ++ List.range' N5 (N6 - N5)).Nodup from nodup_live HM.out.2.2.2 HM.out.2.2.1 _)
                        have p17 : wr.cell? ⟨x, 17, none⟩ = some (.slice A6 N6 q6) := (s9.cells.cell 17).trans rfl
                        have pm9 : PMap wr g ((is ++ List.range' N5 0).map blk6) := by
                          rw [show is ++ List.range' N5 0 = is by simp, List.map_congr_left (fun i hi => HBK.out i (HM.out.2.2.1 i hi))]
                          exact pm7
                        have S9 := Lib.hid (And.intro s9 (And.intro pm9 b7))
                        have hgw1 : w.heap.size + 1 ≤ g := by omega
                        have HLN := Lib.hid (live_len HM.out.2.2.2 HM.out.2.2.1 (N6 - N5))
                        clear s8 s9 pm7 b7 pm9 hcc s7 HNN
                        by_cases hqe : q6 = N5
                        · have HSL := Lib.hid (show ∀ w5 : World, OwnP w5 B (.slice A6 N6 q6) ((List.range N6).map blk6) → ∀ j, j < N6 - N5 → ∃ gA off, A6 = some ⟨gA, off, none⟩ ∧ w5.cell? ⟨gA, off + j, none⟩ = some (.pointer (some ⟨blk6 (N5 + j), 0, none⟩)) from fun _ _ j hj => absurd hj (by omega))
                          go_wp2_with (
                            go_at_call 12
                            refine CY.out.mono ?_
                            rintro r w8 ⟨rfl, rfl⟩)
                          go_loopw [128] (fun v wr => ∃ j : Nat, j ≤ N6 - N5 ∧ v = .int .i64 j ∧ Ws wr x q p b e7 ⟨⟨qa, qb, qc, qd⟩, k⟩ M6 N6 B blk6 fv6 (.slice A6 N6 q6) false full6 (fun H _ A _ => H.mrk = false ∧ ∀ i, i ∈ (is ++ List.range' N5 (N6 - N5)) ↔ A i) ∧ PMap wr g ((is ++ List.range' N5 j).map blk6) ∧ Base w wr [.int .i64 qa, .int .i64 qb, .int .i64 qc, .int .i64 qd, .int .i64 k]) (fun v _ => N6 - N5 - (intOf v).toNat)
                          case atStart => exact ⟨0, by omega, rfl, S9.out.1, S9.out.2.1, S9.out.2.2⟩
                          case round =>
                            clear S9
                            obtain ⟨j5, hj5, rfl, s5, m5, b5⟩ := hrel
                            by_cases hj : j5 < N6 - N5
                            · obtain ⟨gA, off, hAS, hcell⟩ := HSL.out wr s5.all j5 hj
                              subst hAS
                              obtain ⟨w6, hrun, m6, s6, t6⟩ := s5.liveput m5 hgB (i := N5 + j5) (by omega) (fun i hi => ((mem_live _ _ _ _).1 hi).elim (fun h => Nat.lt_of_lt_of_le (HM.out.2.2.1 i h) hN6.1) (fun h => by omega)) (fun h => ((mem_live _ _ _ _).1 h).elim (fun h => by have := HM.out.2.2.1 _ h; omega) (fun h => by omega))
                              rw [← live_snoc] at m6
                              have S6 := Lib.hid (And.intro s6 (And.intro m6 (b5.turns t6 (fun i e => by rw [e]; exact hgw1))))
                              clear s5 m5 b5 s6 m6 t6
                              go_wp2_with fail
                              go_roundw
                              case rel => exact ⟨j5 + 1, by omega, by go_num, S6.out.1, S6.out.2.1, S6.out.2.2⟩
                              case measure => simp [intOf]; omega
                            · obtain rfl : j5 = N6 - N5 := by omega
                              have hTw := HZ.out.2.2.below b5.1
                              have hls := s5.lens
                              have CO := Lib.hid (count_any hTw m5 (fun i hi => by
                                obtain ⟨Af, cf, hfv, -⟩ := (s5.things.rows i (hls i hi).2).read
                                exact ⟨_, Af, cf, _, by rw [← hfv]; exact s5.things.here i (hls i hi).2⟩) (fun i hi => (hls i hi).1) (by have := HLN.out; omega))
                              have HF4 := Lib.hid (fun (i : Nat) (hi : i < 4) (w5 : World) => index_fourOf (fun c => cntc M6 c (is ++ List.range' N5 (N6 - N5))) i hi w5)
                              have S5 := Lib.hid (And.intro s5 b5)
                              clear s5 m5 b5 hTw hls
                              go_wp2_with (
                                go_at_call 13
                                refine CO.out.mono ?_
                                rintro r w8 ⟨rfl, t8⟩
                                have S8 := Lib.hid (And.intro (S5.out.1.quiet t8) (S5.out.2.quiet t8))
                                clear t8)
                              clear S5 CO
                              generalize (fourOf fun c => cntc M6 c (is ++ List.range' N5 (N6 - N5))).toArray = F4 at *
                              go_loopw [137] (fun v wr => ∃ i : Nat, i ≤ 4 ∧ v = .int .i64 i ∧ Ws wr x q p b e7 ⟨⟨qa, qb, qc, qd⟩, k⟩ M6 N6 B blk6 fv6 (.slice A6 N6 q6) false full6 (fun H _ A _ => H.mrk = false ∧ ∀ i, i ∈ (is ++ List.range' N5 (N6 - N5)) ↔ A i) ∧ Base w wr [.int .i64 qa, .int .i64 qb, .int .i64 qc, .int .i64 qd, .int .i64 k]) (fun v _ => 4 - (intOf v).toNat)
                              case atStart => exact ⟨0, by omega, rfl, S8.out.1, S8.out.2⟩
                              case round =>
                                clear S8
                                obtain ⟨i6, hi6, rfl, s6, b6⟩ := hrel
                                by_cases hi4 : i6 < 4
                                · have hx4 := HF4.out i6 hi4
                                  have p0 : wr.cell? ⟨x, 0, none⟩ = some (.pointer (some ⟨q, 0, none⟩)) := s6.cells.cell 0
                                  have e4 : wr.cell? ⟨w.heap.size, i6, none⟩ = some (.int .i64 ((⟨qa, qb, qc, qd⟩ : Q4).at_ i6)) := by
                                    rcases lt4 hi4 with rfl | rfl | rfl | rfl
                                    · exact b6.2.cell 0
                                    · exact b6.2.cell 1
                                    · exact b6.2.cell 2
                                    · exact b6.2.cell 3
                                  have FRI := Lib.hid (fun k => (s6.quiet ((Turns.refl (fun _ => False) wr).drewN k)).free_end hnd9.out hi4)
                                  have hu : 0 ≤ (⟨qa, qb, qc, qd⟩ : Q4).at_ i6 ∧ (⟨qa, qb, qc, qd⟩ : Q4).at_ i6 ≤ 1048576 := geo_at HG.out hi4
                                  have hv : cntc M6 i6 (is ++ List.range' N5 (N6 - N5)) ≤ 2000 := by have := cntc_len M6 i6 (is ++ List.range' N5 (N6 - N5)); have := HLN.out; omega
                                  have S6 := Lib.hid (fun k => And.intro (s6.quiet ((Turns.refl (fun _ => False) wr).drewN k)) (b6.quiet ((Turns.refl (fun _ => False) wr).drewN k)))
                                  clear s6 b6
                                  generalize (⟨qa, qb, qc, qd⟩ : Q4).at_ i6 = u at *
                                  generalize cntc M6 i6 (is ++ List.range' N5 (N6 - N5)) = v at *
                                  go_wp2_with fail
                                  go_quiet ((go_at_call 14; exact quiet_do (FRI.out _)))
                                  go_wp2_with fail
                                  go_roundw
                                  case rel => exact ⟨i6 + 1, by omega, by go_num, (S6.out _).1, (S6.out _).2⟩
                                  case measure => simp [intOf]; omega
                                · obtain rfl : i6 = 4 := by omega
                                  have m18 : wr.cell? ⟨x, 18, none⟩ = some (.bool false) := (s6.cells.cell 18).trans rfl
                                  have SE := Lib.hid (s6.sees (by omega))
                                  have S6 := Lib.hid b6
                                  clear s6 b6
                                  go_wp2_with (
                                    go_at_call 15
                                    refine SE.out.mono ?_
                                    rintro r w9 ⟨rfl, s9, t9⟩
                                    have B9 := Lib.hid (S6.out.turns t9 (fun i hi => HI.out w i (.inr hi)))
                                    clear s9 t9)
                                  go_ret
                                  exact ⟨rfl, B9.out.1⟩
                        · have HSL := Lib.hid (OwnP.tail_ (B := B) (blk := blk6) (A := A6) (q := q6) hN6.1)
                          go_wp2_with (
                            go_at_call 12
                            refine CY.out.mono ?_
                            rintro r w8 ⟨rfl, rfl⟩)
                          generalize Option.map (fun x => x.add N5) A6 = AS at *
                          go_loopw [128] (fun v wr => ∃ j : Nat, j ≤ N6 - N5 ∧ v = .int .i64 j ∧ Ws wr x q p b e7 ⟨⟨qa, qb, qc, qd⟩, k⟩ M6 N6 B blk6 fv6 (.slice A6 N6 q6) false full6 (fun H _ A _ => H.mrk = false ∧ ∀ i, i ∈ (is ++ List.range' N5 (N6 - N5)) ↔ A i) ∧ PMap wr g ((is ++ List.range' N5 j).map blk6) ∧ Base w wr [.int .i64 qa, .int .i64 qb, .int .i64 qc, .int .i64 qd, .int .i64 k]) (fun v _ => N6 - N5 - (intOf v).toNat)
                          case atStart => exact ⟨0, by omega, rfl, S9.out.1, S9.out.2.1, S9.out.2.2⟩
                          case round =>
                            clear S9
                            obtain ⟨j5, hj5, rfl, s5, m5, b5⟩ := hrel
                            by_cases hj : j5 < N6 - N5
                            · obtain ⟨gA, off, hAS, hcell⟩ := HSL.out wr s5.all j5 hj
                              subst hAS
                              obtain ⟨w6, hrun, m6, s6, t6⟩ := s5.liveput m5 hgB (i := N5 + j5) (by omega) (fun i hi => ((mem_live _ _ _ _).1 hi).elim (fun h => Nat.lt_of_lt_of_le (HM.out.2.2.1 i h) hN6.1) (fun h => by omega)) (fun h => ((mem_live _ _ _ _).1 h).elim (fun h => by have := HM.out.2.2.1 _ h; omega) (fun h => by omega))
                              rw [← live_snoc] at m6
                              have S6 := Lib.hid (And.intro s6 (And.intro m6 (b5.turns t6 (fun i e => by rw [e]; exact hgw1))))
                              clear s5 m5 b5 s6 m6 t6
                              go_wp2_with fail
                              go_roundw
                              case rel => exact ⟨j5 + 1, by omega, by go_num, S6.out.1, S6.out.2.1, S6.out.2.2⟩
                              case measure => simp [intOf]; omega
                            · obtain rfl : j5 = N6 - N5 := by omega
                              have hTw := HZ.out.2.2.below b5.1
                              have hls := s5.lens
                              have CO := Lib.hid (count_any hTw m5 (fun i hi => by
                                obtain ⟨Af, cf, hfv, -⟩ := (s5.things.rows i (hls i hi).2).read
                                exact ⟨_, Af, cf, _, by rw [← hfv]; exact s5.things.here i (hls i hi).2⟩) (fun i hi => (hls i hi).1) (by have := HLN.out; omega))
                              have HF4 := Lib.hid (fun (i : Nat) (hi : i < 4) (w5 : World) => index_fourOf (fun c => cntc M6 c (is ++ List.range' N5 (N6 - N5))) i hi w5)
                              have S5 := Lib.hid (And.intro s5 b5)
                              clear s5 m5 b5 hTw hls
                              go_wp2_with (
                                go_at_call 13
                                refine CO.out.mono ?_
                                rintro r w8 ⟨rfl, t8⟩
                                have S8 := Lib.hid (And.intro (S5.out.1.quiet t8) (S5.out.2.quiet t8))
                                clear t8)
                              clear S5 CO
                              generalize (fourOf fun c => cntc M6 c (is ++ List.range' N5 (N6 - N5))).toArray = F4 at *
                              go_loopw [137] (fun v wr => ∃ i : Nat, i ≤ 4 ∧ v = .int .i64 i ∧ Ws wr x q p b e7 ⟨⟨qa, qb, qc, qd⟩, k⟩ M6 N6 B blk6 fv6 (.slice A6 N6 q6) false full6 (fun H _ A _ => H.mrk = false ∧ ∀ i, i ∈ (is ++ List.range' N5 (N6 - N5)) ↔ A i) ∧ Base w wr [.int .i64 qa, .int .i64 qb, .int .i64 qc, .int .i64 qd, .int .i64 k]) (fun v _ => 4 - (intOf v).toNat)
                              case atStart => exact ⟨0, by omega, rfl, S8.out.1, S8.out.2⟩
                              case round =>
                                clear S8
                                obtain ⟨i6, hi6, rfl, s6, b6⟩ := hrel
                                by_cases hi4 : i6 < 4
                                · have hx4 := HF4.out i6 hi4
                                  have p0 : wr.cell? ⟨x, 0, none⟩ = some (.pointer (some ⟨q, 0, none⟩)) := s6.cells.cell 0
                                  have e4 : wr.cell? ⟨w.heap.size, i6, none⟩ = some (.int .i64 ((⟨qa, qb, qc, qd⟩ : Q4).at_ i6)) := by
                                    rcases lt4 hi4 with rfl | rfl | rfl | rfl
                                    · exact b6.2.cell 0
                                    · exact b6.2.cell 1
                                    · exact b6.2.cell 2
                                    · exact b6.2.cell 3
                                  have FRI := Lib.hid (fun k => (s6.quiet ((Turns.refl (fun _ => False) wr).drewN k)).free_end hnd9.out hi4)
                                  have hu : 0 ≤ (⟨qa, qb, qc, qd⟩ : Q4).at_ i6 ∧ (⟨qa, qb, qc, qd⟩ : Q4).at_ i6 ≤ 1048576 := geo_at HG.out hi4
                                  have hv : cntc M6 i6 (is ++ List.range' N5 (N6 - N5)) ≤ 2000 := by have := cntc_len M6 i6 (is ++ List.range' N5 (N6 - N5)); have := HLN.out; omega
                                  have S6 := Lib.hid (fun k => And.intro (s6.quiet ((Turns.refl (fun _ => False) wr).drewN k)) (b6.quiet ((Turns.refl (fun _ => False) wr).drewN k)))
                                  clear s6 b6
                                  generalize (⟨qa, qb, qc, qd⟩ : Q4).at_ i6 = u at *
                                  generalize cntc M6 i6 (is ++ List.range' N5 (N6 - N5)) = v at *
                                  go_wp2_with fail
                                  go_quiet ((go_at_call 14; exact quiet_do (FRI.out _)))
                                  go_wp2_with fail
                                  go_roundw
                                  case rel => exact ⟨i6 + 1, by omega, by go_num, (S6.out _).1, (S6.out _).2⟩
                                  case measure => simp [intOf]; omega
                                · obtain rfl : i6 = 4 := by omega
                                  have m18 : wr.cell? ⟨x, 18, none⟩ = some (.bool false) := (s6.cells.cell 18).trans rfl
                                  have SE := Lib.hid (s6.sees (by omega))
                                  have S6 := Lib.hid b6
                                  clear s6 b6
                                  go_wp2_with (
                                    go_at_call 15
                                    refine SE.out.mono ?_
                                    rintro r w9 ⟨rfl, s9, t9⟩
                                    have B9 := Lib.hid (S6.out.turns t9 (fun i hi => HI.out w i (.inr hi)))
                                    clear s9 t9)
                                  go_ret
                                  exact ⟨rfl, B9.out.1⟩
              · have INC := Lib.hid (S7.out.inc1 (by omega))
                go_wp2_with (first
                  | (go_at_call 9
                     refine MK.out.mono ?_
                     rintro r w8 ⟨rfl, rfl⟩)
                  | (go_at_call 10
                     refine INC.out.mono ?_
                     rintro r w8 ⟨rfl, s8, t8⟩
                     have S8 := Lib.hid (And.intro s8 (B7.out.turns t8 (fun i hi => HI.out w i (.inr hi))))
                     clear s8 t8))
                have HS := R2.step P5.out he6 S8.out.1 S8.out.2
                go_roundw
                case rel => exact ⟨_, HS.2⟩
                case measure => exact leastN_lt HNN.out HS.1 HS.2
      · have hld2 : decide ((n2 : Int) > 300) = true := by simp; omega
        rw [hld2] at LO2
        clear hs hld hld2
        go_enter Tryz.func3, Tryz.ntmps3
        go_wp2_with (first
          | (go_at_call 4
             refine (AW.out _ b0).mono ?_
             rintro e w1 ⟨rfl, b1⟩
             have hb1 := hbx.below b1 hbx.lt
             have o0 : w1.cell? ⟨w.heap.size, 0, none⟩ = some (.int .i64 qa) := hb1.cell 0
             have o1 : w1.cell? ⟨w.heap.size, 1, none⟩ = some (.int .i64 qb) := hb1.cell 1
             have o2 : w1.cell? ⟨w.heap.size, 2, none⟩ = some (.int .i64 qc) := hb1.cell 2
             have o3 : w1.cell? ⟨w.heap.size, 3, none⟩ = some (.int .i64 qd) := hb1.cell 3
             have o4 : w1.cell? ⟨w.heap.size, 4, none⟩ = some (.int .i64 k) := hb1.cell 4
             have B1 := Lib.hid (b0.trans (b1.mono b0.size))
             have H1 := Lib.hid hb1
             clear hb1 b1)
          | (go_at_call 5
             refine (MY.out _).mono ?_
             rintro e w2 ⟨rfl, t2⟩
             have hb2 := H1.out.turns t2 (fun h => h)
             have o0' : w2.cell? ⟨w.heap.size, 0, none⟩ = some (.int .i64 qa) := hb2.cell 0
             have o1' : w2.cell? ⟨w.heap.size, 1, none⟩ = some (.int .i64 qb) := hb2.cell 1
             have o2' : w2.cell? ⟨w.heap.size, 2, none⟩ = some (.int .i64 qc) := hb2.cell 2
             have o3' : w2.cell? ⟨w.heap.size, 3, none⟩ = some (.int .i64 qd) := hb2.cell 3
             have o4' : w2.cell? ⟨w.heap.size, 4, none⟩ = some (.int .i64 k) := hb2.cell 4
             have B2 := Lib.hid (B1.out.trans (t2.below B1.out.size (fun _ h => h.elim)))
             have hlt2 := hb2.lt
             clear hb2 t2 o0 o1 o2 o3 o4)
          | (go_at_call 6
             refine (LO.out _).mono ?_
             rintro e w3 ⟨rfl, rfl⟩)
          | (go_at_call 6
             refine (LO2.out _).mono ?_
             rintro e w3 ⟨rfl, rfl⟩)
          | (go_at_call 4
             refine (AW.out _ B2.out).mono ?_
             rintro e w4 ⟨rfl, b4⟩))
        go_ret
        exact ⟨rfl, B2.out.trans (b4.mono B2.out.size)⟩
    · have hld : decide ((n : Int) > 300) = true := by simp; omega
      rw [hld] at LO
      clear hs hld
      go_enter Tryz.func3, Tryz.ntmps3
      go_wp2_with (first
        | (go_at_call 4
           refine (AW.out _ b0).mono ?_
           rintro e w1 ⟨rfl, b1⟩
           have hb1 := hbx.below b1 hbx.lt
           have o0 : w1.cell? ⟨w.heap.size, 0, none⟩ = some (.int .i64 qa) := hb1.cell 0
           have o1 : w1.cell? ⟨w.heap.size, 1, none⟩ = some (.int .i64 qb) := hb1.cell 1
           have o2 : w1.cell? ⟨w.heap.size, 2, none⟩ = some (.int .i64 qc) := hb1.cell 2
           have o3 : w1.cell? ⟨w.heap.size, 3, none⟩ = some (.int .i64 qd) := hb1.cell 3
           have o4 : w1.cell? ⟨w.heap.size, 4, none⟩ = some (.int .i64 k) := hb1.cell 4
           have B1 := Lib.hid (b0.trans (b1.mono b0.size))
           have H1 := Lib.hid hb1
           clear hb1 b1)
        | (go_at_call 5
           refine (MY.out _).mono ?_
           rintro e w2 ⟨rfl, t2⟩
           have hb2 := H1.out.turns t2 (fun h => h)
           have o0' : w2.cell? ⟨w.heap.size, 0, none⟩ = some (.int .i64 qa) := hb2.cell 0
           have o1' : w2.cell? ⟨w.heap.size, 1, none⟩ = some (.int .i64 qb) := hb2.cell 1
           have o2' : w2.cell? ⟨w.heap.size, 2, none⟩ = some (.int .i64 qc) := hb2.cell 2
           have o3' : w2.cell? ⟨w.heap.size, 3, none⟩ = some (.int .i64 qd) := hb2.cell 3
           have o4' : w2.cell? ⟨w.heap.size, 4, none⟩ = some (.int .i64 k) := hb2.cell 4
           have B2 := Lib.hid (B1.out.trans (t2.below B1.out.size (fun _ h => h.elim)))
           have hlt2 := hb2.lt
           clear hb2 t2 o0 o1 o2 o3 o4)
        | (go_at_call 6
           refine (LO.out _).mono ?_
           rintro e w3 ⟨rfl, rfl⟩)
        | (go_at_call 4
           refine (AW.out _ B2.out).mono ?_
           rintro e w4 ⟨rfl, b4⟩))
      go_ret
      exact ⟨rfl, B2.out.trans (b4.mono B2.out.size)⟩
  · have MY := Lib.hid (fun w1 => (may_any qa qb qc qd k w1).mono fun e w' h => And.intro (h.1.ne hs) h.2)
    clear hs
    go_enter Tryz.func3, Tryz.ntmps3
    go_wp2_with (first
      | (go_at_call 4
         refine (AW.out _ b0).mono ?_
         rintro e w1 ⟨rfl, b1⟩
         have hb1 := hbx.below b1 hbx.lt
         have o0 : w1.cell? ⟨w.heap.size, 0, none⟩ = some (.int .i64 qa) := hb1.cell 0
         have o1 : w1.cell? ⟨w.heap.size, 1, none⟩ = some (.int .i64 qb) := hb1.cell 1
         have o2 : w1.cell? ⟨w.heap.size, 2, none⟩ = some (.int .i64 qc) := hb1.cell 2
         have o3 : w1.cell? ⟨w.heap.size, 3, none⟩ = some (.int .i64 qd) := hb1.cell 3
         have o4 : w1.cell? ⟨w.heap.size, 4, none⟩ = some (.int .i64 k) := hb1.cell 4
         have B1 := Lib.hid (b0.trans (b1.mono b0.size))
         have H1 := Lib.hid hb1
         clear hb1 b1)
      | (go_at_call 5
         refine (MY.out _).mono ?_
         rintro e w2 ⟨rfl, t2⟩
         have hb2 := H1.out.turns t2 (fun h => h)
         have o0' : w2.cell? ⟨w.heap.size, 0, none⟩ = some (.int .i64 qa) := hb2.cell 0
         have o1' : w2.cell? ⟨w.heap.size, 1, none⟩ = some (.int .i64 qb) := hb2.cell 1
         have o2' : w2.cell? ⟨w.heap.size, 2, none⟩ = some (.int .i64 qc) := hb2.cell 2
         have o3' : w2.cell? ⟨w.heap.size, 3, none⟩ = some (.int .i64 qd) := hb2.cell 3
         have o4' : w2.cell? ⟨w.heap.size, 4, none⟩ = some (.int .i64 k) := hb2.cell 4
         have B2 := Lib.hid (B1.out.trans (t2.below B1.out.size (fun _ h => h.elim)))
         have hlt2 := hb2.lt
         clear hb2 t2 o0 o1 o2 o3 o4)
      | (go_at_call 4
         refine (AW.out _ B2.out).mono ?_
         rintro e w4 ⟨rfl, b4⟩))
    go_ret
    exact ⟨rfl, B2.out.trans (b4.mono B2.out.size)⟩
end Go.Proofs.YtclcnepkgjcmcaaGreatDoor
