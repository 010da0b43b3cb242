/- The law TreadRoom, walked. -/
import Derived.Test.YtclcnepkgjcmcaaDoorQ48
namespace Go.Proofs.YtclcnepkgjcmcaaDoor
open Go.RowKit Go.ChangeShapes Go.WideShapes Go.ChangeAt

set_option maxHeartbeats 8000000 in
set_option maxRecDepth 100000 in
theorem room_walk (k : Int) (A : Option Addr) (n c : Nat) (Z : Nat → Nat → Int) (hn : n ≤ maxLen) (w : World) (hz : CameRows w [.i64, .i64, .i64, .i64, .i64] A n Z) (hT : Tab w) :
    Calls Tryd.prog 3 #[.int .i64 k, .slice A n c] w fun e w' => e = .returned (.bool true) ∧ Below w.heap.size w w' := by
  have AW := Lib.hid (fun w1 (h : Below w.heap.size w w1) => awake_any w1 (hT.below h))
  have LO := Lib.hid (fun w1 => long_any A n c w1 hn)
  have HZ := Lib.hid (And.intro hz hT)
  have b0 := Below.refl w.heap.size w
  have hmx := hn
  unfold maxLen at hmx
  clear hz hT hn
  by_cases k1 : k < 1
  · go_enter Tryd.func3, Tryd.ntmps3
    go_wp2_with (first
      | (go_at_call 4
         refine (AW.out _ b0).mono ?_
         rintro e w1 ⟨rfl, b1⟩
         have B1 := Lib.hid b1
         clear b1)
      | (go_at_call 4
         refine (AW.out _ B1.out).mono ?_
         rintro e w2 ⟨rfl, b2⟩))
    go_ret
    exact ⟨rfl, B1.out.trans (b2.mono B1.out.size)⟩
  by_cases k2 : 64 < k
  · go_enter Tryd.func3, Tryd.ntmps3
    go_wp2_with (first
      | (go_at_call 4
         refine (AW.out _ b0).mono ?_
         rintro e w1 ⟨rfl, b1⟩
         have B1 := Lib.hid b1
         clear b1)
      | (go_at_call 4
         refine (AW.out _ B1.out).mono ?_
         rintro e w2 ⟨rfl, b2⟩))
    go_ret
    exact ⟨rfl, B1.out.trans (b2.mono B1.out.size)⟩
  by_cases hl : n ≤ 300
  · have hld : decide ((n : Int) > 300) = false := by simp; omega
    rw [hld] at LO
    have BG := Lib.hid (fun w1 (h : Below w.heap.size w w1) => begin_any big_ok (fun _ => 0) w1 (HZ.out.2.below h))
    clear hld
    go_enter Tryd.func3, Tryd.ntmps3
    go_wp2_with (first
      | (go_at_call 4
         refine (AW.out _ b0).mono ?_
         rintro e w1 ⟨rfl, b1⟩
         have B1 := Lib.hid b1
         clear b1)
      | (go_at_call 5
         refine (LO.out _).mono ?_
         rintro e w3 ⟨rfl, rfl⟩)
      | (go_at_call 6
         refine (BG.out _ B1.out).mono ?_
         rintro e w4 ⟨x, q, p, b, rfl, hc, hTr, b4, hx, hq, hp, hbb, hxo, hx4⟩
         have S4 := Lib.hid (Ws.first big_ok (fun _ => 0) (fun _ => .slice none 0 0) hc hTr hxo)
         have B4 := Lib.hid (B1.out.trans (b4.mono B1.out.size))
         clear hc hTr b4))
    have hxg : x ≠ 0 := fun e => by have := HZ.out.2.1; have := B1.out.size; omega
    have hsB := B4.out.size
    have hsx := B1.out.size
    generalize hBB : w4.heap.size = B at *
    have DO := Lib.hid (fun (w5 : World) (e5 : Int) M5 N5 blk5 fv5 al5 full5 (h5 : Ws w5 x q p b e5 ⟨⟨2000, 1000, 600, 400⟩, 64⟩ M5 N5 B blk5 fv5 al5 false full5 Gk.any) (hp : Plain M5 N5) (hN : N5 ≤ 1000) (he : e5 ≤ 900000000) (k0 a0 b0 c0 n0 : Int) (h6 : k0 ≠ 6) (h7 : k0 ≠ 7) (P : Md) (T : Nat) (hS : full5 = true ∨ (Sim M5 P ∧ N5 = T)) => h5.do_x hp hxg hN he (by decide) k0 a0 b0 c0 n0 h6 h7 hS)
    have HI : Hid (∀ (w5 : World) i, (DoT w5 x q p b B i ∨ Own3 q p b i) → w.heap.size ≤ i) := fun w5 i h => h.elim (fun h => h.hi (by omega) (by omega) (by omega) (by omega) hsB) (fun h => DoT.hi (w := w5) (x := x) (B := B) (.inl (.inr h)) (by omega) (by omega) (by omega) (by omega) hsB)
    clear AW LO BG b0 hx hq hp hbb hxo hx4 B1
    go_loopw [35, 5] (fun v m wr => ∃ (j mo : Nat) (e5 : Int) (M5 : Md) (N5 : Nat) (blk5 : Nat → Nat) (fv5 : Nat → Value) (al5 : Value) (full5 : Bool), j ≤ n ∧ v = .int .i64 j ∧ m = .int .i64 mo ∧ mo ≤ 300 ∧ N5 ≤ j ∧ e5 ≤ 64 * j ∧ Plain M5 N5 ∧ Ws wr x q p b e5 ⟨⟨2000, 1000, 600, 400⟩, 64⟩ M5 N5 B blk5 fv5 al5 false full5 Gk.any ∧ Mo Z j mo M5 N5 full5 ∧ Below w.heap.size w wr) (fun v _ _ => n - (intOf v).toNat)
    case atStart => exact ⟨0, 0, _, _, _, _, _, _, _, by omega, rfl, rfl, by omega, Nat.le_refl _, by omega, (fun i hi => absurd hi (by omega)), S4.out, .inr ⟨Sim.refl _, rfl, fun i hi => by rw [Nat.le_zero.1 hi]; exact Rb.none 0⟩, B4.out⟩
    case round =>
      clear S4 B4
      obtain ⟨j, mo, e5, M5, N5, blk5, fv5, al5, full5, hj, rfl, rfl, hmo, hN5, he5, hp5, s5, mo5, hb5⟩ := hrel
      by_cases hjn : j < n
      · obtain ⟨g, off, rfl, hg, hcell⟩ := HZ.out.1.at_ hb5 hjn
        have c0 := hcell 0 _ rfl
        have c1 := hcell 1 _ rfl
        have c2 := hcell 2 _ rfl
        have c3 := hcell 3 _ rfl
        have c4 := hcell 4 _ rfl
        simp only [List.length_cons, List.length_nil, Nat.reduceAdd, Nat.add_zero, ← Nat.add_assoc] at c0 c1 c2 c3 c4
        have S5 := Lib.hid s5
        have B5 := Lib.hid hb5
        have P5 := Lib.hid (And.intro hp5 mo5)
        have hsz5 := hb5.size
        have hjz : (0 : Int) ≤ (j : Int) := by omega
        have hr1 := fun h => runs_skip (Z := Z) (j := j) h
        have hr2 := fun h => runs_next (Z := Z) (j := j) h
        have HR := Lib.hid (And.intro hr1 hr2)
        clear s5 hb5 hcell hp5 mo5 hr1 hr2
        generalize Z j 0 = z0 at *
        generalize Z j 1 = z1 at *
        generalize Z j 2 = z2 at *
        generalize Z j 3 = z3 at *
        generalize Z j 4 = z4 at *
        by_cases h6 : z0 = 6
        · have h6b : (z0 != 6) = false := by simpa using h6
          have H6 := Lib.hid h6
          clear h6
          go_wp2_with fail
          go_roundw
          case rel => exact ⟨j + 1, mo, e5, M5, N5, blk5, fv5, al5, full5, by omega, by go_num, rfl, by omega, by omega, by omega, P5.out.1, S5.out.quiet ((Turns.refl (fun _ => False) wr).alloc _), P5.out.2.skip (HR.out.1 (.inl H6.out)), B5.out.alloc B5.out.size _⟩
          case measure => simp [intOf]; omega
        · have h6b : (z0 != 6) = true := by simpa using h6
          have H6 := Lib.hid h6
          clear h6
          by_cases h7 : z0 = 7
          · have h7b : (z0 != 7) = false := by simpa using h7
            have H7 := Lib.hid h7
            clear h7
            go_wp2_with fail
            go_roundw
            case rel => exact ⟨j + 1, mo, e5, M5, N5, blk5, fv5, al5, full5, by omega, by go_num, rfl, by omega, by omega, by omega, P5.out.1, S5.out.quiet ((Turns.refl (fun _ => False) wr).alloc _), P5.out.2.skip (HR.out.1 (.inr H7.out)), B5.out.alloc B5.out.size _⟩
            case measure => simp [intOf]; omega
          · have h7b : (z0 != 7) = true := by simpa using h7
            have H7 := Lib.hid h7
            clear h7
            go_wp2_with (first
              | (go_at_call 7
                 refine (DO.out _ _ _ _ _ _ _ _ (S5.out.quiet ((Turns.refl (fun _ => False) wr).alloc (.cells #[.int .i64 z0, .int .i64 z1, .int .i64 z2, .int .i64 z3, .int .i64 z4] 31))) P5.out.1 (by omega) (by omega) _ _ _ _ _ H6.out H7.out (runs Z j).1 (runs Z j).2 (P5.out.2.imp id (fun h => ⟨h.1, h.2.1⟩))).mono ?_
                 rintro r w6 ⟨rfl, ⟨e6, M6, N6, blk6, fv6, al6, full6, he6, hN6, hp6, s6, hS6, hf6⟩, t6⟩
                 have RE := Lib.hid (s6.reached (by omega))
                 have P6 := Lib.hid (And.intro hp6 (And.intro hS6 hf6))
                 have B6 := Lib.hid ((B5.out.alloc B5.out.size (.cells #[.int .i64 z0, .int .i64 z1, .int .i64 z2, .int .i64 z3, .int .i64 z4] 31)).trans (t6.below (by simp; omega) (fun i hi => HI.out _ i (.inl hi))))
                 clear s6 t6 hp6 hS6 hf6)
              | (go_at_call 8
                 refine RE.out.mono ?_
                 rintro r w8 ⟨g8, is, rfl, pm, hgs, hiff, hlow, hnd, s8, t8⟩
                 have hlen := fun ty => run_len_pmap w8 ty pm
                 rw [List.length_map] at hlen
                 have hmax := fun ts ty w => run_max_int mo is.length ts ty w
                 have hil : is.length ≤ 300 := by have := len_le hnd hlow; omega
                 have S8 := Lib.hid s8
                 have B8 := Lib.hid (B6.out.trans (t8.below B6.out.size (fun _ h => h.elim)))
                 have M8 := Lib.hid (Mo.next P5.out.2 (HR.out.2 (fun h => h.elim H6.out H7.out)) P6.out.2.2 P6.out.2.1 hiff)
                 have hmx8 : max mo is.length ≤ 300 := by omega
                 clear s8 t8 pm hiff hlow hnd))
            go_roundw
            case rel => exact ⟨j + 1, max mo is.length, e6, M6, N6, blk6, fv6, al6, full6, by omega, by go_num, rfl, hmx8, by omega, by omega, P6.out.1, S8.out, M8.out, B8.out⟩
            case measure => simp [intOf]; omega
      · obtain rfl : j = n := by omega
        have m19 : wr.cell? ⟨x, 19, none⟩ = some (.bool full5) := (s5.cells.cell 19).trans rfl
        have B5 := Lib.hid hb5
        have M5' := Lib.hid mo5
        have hxs := s5.cells.lt
        clear s5 hb5 mo5 hp5
        cases full5
        · have hRb : ∀ i, i ≤ j → Rb mo (runs Z i).1 := by
            rcases M5'.out with h | h
            · cases h
            · exact h.2.2
          have HRB := Lib.hid hRb
          clear hRb
          obtain ⟨hq1, hq2, hq3⟩ := room_quo hmo (show 1 ≤ k by omega) (show k ≤ 64 by omega)
          generalize (((mo : Int) + k - 1) / k).toNat = Q at *
          have hg2 := Lib.hid (room_ok hmo hq2 (show 1 ≤ k by omega) (show k ≤ 64 by omega))
          have BG2 := Lib.hid (fun w1 (h : Below w.heap.size w w1) => begin_any hg2.out (fun _ => 0) w1 (HZ.out.2.below h))
          have hk0 : k ≠ 0 := by omega
          have HQ3 := Lib.hid hq3
          clear hq3
          go_wp2_with fail
          go_at_call 6
          refine (BG2.out _ B5.out).mono ?_
          rintro e w9 ⟨x2, q2, p2, b2, rfl, hc, hTr, b9, hx2, hq2', hp2, hbb2, hxo2, hx92⟩
          have S9 := Lib.hid (Ws.firstK hg2.out (fun _ => 0) (fun _ => .slice none 0 0) (Rk.fresh _ mo Q k.toNat) hc hTr hxo2)
          have B9 := Lib.hid (B5.out.trans (b9.mono B5.out.size))
          clear hc hTr b9
          go_wp2_with fail
          have hxg2 : x2 ≠ 0 := fun e => by have := HZ.out.2.1; have := B5.out.size; omega
          have hsB2 := B9.out.size
          have hsx2 := B5.out.size
          generalize hBB2 : w9.heap.size = B2 at *
          have DOY := Lib.hid (fun (w5 : World) (e5 : Int) M5 N5 blk5 fv5 al5 (h5 : Ws w5 x2 q2 p2 b2 e5 ⟨⟨2 * (mo : Int) + 2 * (Q : Int) + 16, 2 * (mo : Int) + 2 * (Q : Int) + 16, 2 * (mo : Int) + 2 * (Q : Int) + 16, 2 * (mo : Int) + 2 * (Q : Int) + 16⟩, k⟩ M5 N5 B2 blk5 fv5 al5 false false ((Rk mo Q k.toNat 0 N5).low N5)) (hp : Plain M5 N5) (hN : N5 ≤ 1000) (he : e5 ≤ 900000000) (P : Md) (hS : Sim M5 P) (hL : Rb mo P) (k0 a0 b0 c0 n0 : Int) (h6 : k0 ≠ 6) (h7 : k0 ≠ 7) => h5.do_y hp hS hxg2 hN he (by omega) (by omega) (show k = ((k.toNat : Nat) : Int) by omega) HQ3.out (fun c hc => by rw [room_at hc]; omega) hL k0 a0 b0 c0 n0 h6 h7)
          have HI2 : Hid (∀ (w5 : World) i, (DoT w5 x2 q2 p2 b2 B2 i ∨ Own3 q2 p2 b2 i) → w.heap.size ≤ i) := fun w5 i h => h.elim (fun h => h.hi (by omega) (by omega) (by omega) (by omega) hsB2) (fun h => DoT.hi (w := w5) (x := x2) (B := B2) (.inl (.inr h)) (by omega) (by omega) (by omega) (by omega) hsB2)
          clear BG2 hx2 hq2' hp2 hbb2 hxo2 hx92 B5 M5' DO HI m19
          go_loopw [83] (fun v wr => ∃ (i : Nat) (e6 : Int) (M6 : Md) (N6 : Nat) (blk6 : Nat → Nat) (fv6 : Nat → Value) (al6 : Value), i ≤ j ∧ v = .int .i64 i ∧ N6 ≤ i ∧ e6 ≤ 64 * i ∧ Plain M6 N6 ∧ Ws wr x2 q2 p2 b2 e6 ⟨⟨2 * (mo : Int) + 2 * (Q : Int) + 16, 2 * (mo : Int) + 2 * (Q : Int) + 16, 2 * (mo : Int) + 2 * (Q : Int) + 16, 2 * (mo : Int) + 2 * (Q : Int) + 16⟩, k⟩ M6 N6 B2 blk6 fv6 al6 false false ((Rk mo Q k.toNat 0 N6).low N6) ∧ (Sim M6 (runs Z i).1 ∧ N6 = (runs Z i).2) ∧ Below w.heap.size w wr) (fun v _ => j - (intOf v).toNat)
          case atStart => exact ⟨0, _, _, _, _, _, _, by omega, rfl, Nat.le_refl _, by omega, (fun i hi => absurd hi (by omega)), S9.out, ⟨Sim.refl _, rfl⟩, B9.out⟩
          case round =>
            clear S9 B9
            obtain ⟨i, e6, M6, N6, blk6, fv6, al6, hi, rfl, hN6, he6, hp6, s6, mo6, hb6⟩ := hrel
            by_cases hij : i < j
            · obtain ⟨g, off, rfl, hg, hcell⟩ := HZ.out.1.at_ hb6 hij
              have c0 := hcell 0 _ rfl
              have c1 := hcell 1 _ rfl
              have c2 := hcell 2 _ rfl
              have c3 := hcell 3 _ rfl
              have c4 := hcell 4 _ rfl
              simp only [List.length_cons, List.length_nil, Nat.reduceAdd, Nat.add_zero, ← Nat.add_assoc] at c0 c1 c2 c3 c4
              have S6 := Lib.hid s6
              have B6 := Lib.hid hb6
              have P6 := Lib.hid (And.intro hp6 mo6)
              have hsz6 := hb6.size
              have hiz : (0 : Int) ≤ (i : Int) := by omega
              have hr1 := fun h => runs_skip (Z := Z) (j := i) h
              have hr2 := fun h => runs_next (Z := Z) (j := i) h
              have HR := Lib.hid (And.intro hr1 hr2)
              clear s6 hb6 hcell hp6 mo6 hr1 hr2
              generalize Z i 0 = z0 at *
              generalize Z i 1 = z1 at *
              generalize Z i 2 = z2 at *
              generalize Z i 3 = z3 at *
              generalize Z i 4 = z4 at *
              have sq := S6.out.quiet ((Turns.refl (fun _ => False) wr).alloc (.cells #[.int .i64 z0, .int .i64 z1, .int .i64 z2, .int .i64 z3, .int .i64 z4] 31))
              have m18 : (wr.alloc (.cells #[.int .i64 z0, .int .i64 z1, .int .i64 z2, .int .i64 z3, .int .i64 z4] 31)).cell? ⟨x2, 18, none⟩ = some (.bool false) := (sq.cells.cell 18).trans rfl
              have m19 : (wr.alloc (.cells #[.int .i64 z0, .int .i64 z1, .int .i64 z2, .int .i64 z3, .int .i64 z4] 31)).cell? ⟨x2, 19, none⟩ = some (.bool false) := (sq.cells.cell 19).trans rfl
              have n18 : wr.cell? ⟨x2, 18, none⟩ = some (.bool false) := (S6.out.cells.cell 18).trans rfl
              have n19 : wr.cell? ⟨x2, 19, none⟩ = some (.bool false) := (S6.out.cells.cell 19).trans rfl
              have SQ := Lib.hid sq
              clear sq
              by_cases h6 : z0 = 6
              · have h6b : (z0 != 6) = false := by simpa using h6
                have H6 := Lib.hid h6
                clear h6
                go_wp2_with fail
                go_roundw
                case rel => exact ⟨i + 1, e6, M6, N6, blk6, fv6, al6, by omega, by go_num, by omega, by omega, P6.out.1, SQ.out, (by rw [HR.out.1 (.inl H6.out)]; exact P6.out.2), B6.out.alloc B6.out.size _⟩
                case measure => simp [intOf]; omega
              · have h6b : (z0 != 6) = true := by simpa using h6
                have H6 := Lib.hid h6
                clear h6
                by_cases h7 : z0 = 7
                · have h7b : (z0 != 7) = false := by simpa using h7
                  have H7 := Lib.hid h7
                  clear h7
                  go_wp2_with fail
                  go_roundw
                  case rel => exact ⟨i + 1, e6, M6, N6, blk6, fv6, al6, by omega, by go_num, by omega, by omega, P6.out.1, SQ.out, (by rw [HR.out.1 (.inr H7.out)]; exact P6.out.2), B6.out.alloc B6.out.size _⟩
                  case measure => simp [intOf]; omega
                · have h7b : (z0 != 7) = true := by simpa using h7
                  have H7 := Lib.hid h7
                  clear h7
                  go_wp2_with (
                    go_at_call 7
                    refine (DOY.out _ _ _ _ _ _ _ SQ.out P6.out.1 (by omega) (by omega) (runs Z i).1 P6.out.2.1 (HRB.out i hi) _ _ _ _ _ H6.out H7.out).mono ?_
                    rintro r w7 ⟨rfl, ⟨e7, M7, N7, blk7, fv7, al7, he7, hN7, hp7, hs7, hn7, s7⟩, t7⟩
                    have l18 : w7.cell? ⟨x2, 18, none⟩ = some (.bool false) := (s7.cells.cell 18).trans rfl
                    have l19 : w7.cell? ⟨x2, 19, none⟩ = some (.bool false) := (s7.cells.cell 19).trans rfl
                    have S7 := Lib.hid s7
                    have P7 := Lib.hid (And.intro hp7 (show Sim M7 (runs Z (i + 1)).1 ∧ N7 = (runs Z (i + 1)).2 from by
                      rw [HR.out.2 (fun h => h.elim H6.out H7.out), hn7]
                      have h := hs7
                      rw [P6.out.2.2] at h ⊢
                      exact ⟨h, rfl⟩))
                    have B7 := Lib.hid ((B6.out.alloc B6.out.size (.cells #[.int .i64 z0, .int .i64 z1, .int .i64 z2, .int .i64 z3, .int .i64 z4] 31)).trans (t7.below (by simp; omega) (fun i hi => HI2.out _ i (.inl hi))))
                    clear s7 t7 hp7 hs7 hn7 m18 m19 n18 n19)
                  go_roundw
                  case rel => exact ⟨i + 1, e7, M7, N7, blk7, fv7, al7, by omega, by go_num, by omega, by omega, P7.out.1, S7.out, P7.out.2, B7.out⟩
                  case measure => simp [intOf]; omega
            · obtain rfl : i = j := by omega
              have SE := Lib.hid (s6.sees (by omega))
              have B6 := Lib.hid hb6
              clear s6 hb6 mo6 hp6
              go_wp2_with (
                go_at_call 9
                refine SE.out.mono ?_
                rintro r w9 ⟨rfl, s9, t9⟩
                have B9 := Lib.hid (B6.out.trans (t9.below B6.out.size (fun i hi => HI2.out w i (.inr hi))))
                clear s9 t9)
              go_ret
              exact ⟨rfl, B9.out⟩
        · go_wp2_with fail
          go_ret
          exact ⟨rfl, B5.out⟩
  · have hld : decide ((n : Int) > 300) = true := by simp; omega
    rw [hld] at LO
    clear hld
    go_enter Tryd.func3, Tryd.ntmps3
    go_wp2_with (first
      | (go_at_call 4
         refine (AW.out _ b0).mono ?_
         rintro e w1 ⟨rfl, b1⟩
         have B1 := Lib.hid b1
         clear b1)
      | (go_at_call 5
         refine (LO.out _).mono ?_
         rintro e w3 ⟨rfl, rfl⟩)
      | (go_at_call 4
         refine (AW.out _ B1.out).mono ?_
         rintro e w2 ⟨rfl, b2⟩))
    go_ret
    exact ⟨rfl, B1.out.trans (b2.mono B1.out.size)⟩
end Go.Proofs.YtclcnepkgjcmcaaDoor
