/- The law TreadKeeps, walked. -/
import Derived.Test.YtfogfafanfiffaaGreatDoorQ46
import Derived.Test.YtfogfafanfiffaaGreatDoorQ42
import Derived.Test.YtfogfafanfiffaaGreatDoorQ33
import Derived.Test.YtfogfafanfiffaaGreatDoorQ47
import Derived.Test.YtfogfafanfiffaaGreatDoorQ5
namespace Go.Proofs.YtfogfafanfiffaaGreatDoor
open Go.RowKit Go.ChangeShapes Go.WideShapes Go.ChangeAt

theorem Ws.first {w : World} {x q p b : Nat} {G : Geo} (g : G.ok) (blk : Nat → Nat) (fv : Nat → Value) (hc : Lies w x 42 (wcells q blk (fun _ => .w 12) (.slice none 0 0) false false)) (hT : Tr w q p b G G.fresh) (hxo : ¬ Own3 q p b x) : Ws w x q p b 0 G Md.none 0 w.heap.size blk fv (.slice none 0 0) false false Gk.any := by
  obtain ⟨l1, l2, l3⟩ := hT.lt
  exact ⟨hc, ⟨fun i hi => absurd hi (by omega), fun i hi => absurd hi (by omega), fun i j hi => absurd hi (by omega), fun i j hi => absurd hi (by omega), fun i hi => absurd hi (by omega), fun r hr => trivial, fun i hi => absurd hi (by omega)⟩,
    OwnP.none_ w _, ⟨_, _, _, _, hT, safe_fresh g, trivial, fun i h => h.elim⟩, l1, l2, l3, hc.lt, hxo, fun i hi => absurd hi (by omega), Nat.le_refl _⟩
theorem Says.eq {Q : Prop} {e : Ending} (h : Says Q e) (hq : Q) : e = .returned (.bool true) := by
  obtain ⟨b, rfl, hb⟩ := h
  rw [hb.2 hq]
theorem Says.ne {Q : Prop} {e : Ending} (h : Says Q e) (hq : ¬ Q) : e = .returned (.bool false) := by
  obtain ⟨b, rfl, hb⟩ := h
  cases b
  · rfl
  · exact absurd (hb.1 rfl) hq
theorem small_ok {qa qb qc qd k : Int} (h : Small qa qb qc qd k) : Geo.ok ⟨⟨qa, qb, qc, qd⟩, k⟩ := by
  unfold Small at h
  unfold Geo.ok Geo.top Geo.b3 Geo.b2 Geo.b1
  simp only
  omega
theorem DoT.hi {x q p b B k n : Nat} (h : DoT x q p b B k) (hx : n ≤ x) (hq : n ≤ q) (hp : n ≤ p) (hb : n ≤ b) (hB : n ≤ B) : n ≤ k := by
  rcases h with (h | h) | h
  · omega
  · unfold Own3 at h; omega
  · omega
theorem Tab.below {w w' : World} (h : Tab w) (k : Below w.heap.size w w') : Tab w' := h.turns (Turns.of_below k (fun _ => False)) (fun h => h)

set_option maxHeartbeats 2000000 in
set_option maxRecDepth 100000 in
theorem keeps_walk (qa qb qc qd k : Int) (A : Option Addr) (n c : Nat) (Z : Nat → Nat → Int) (hn : n ≤ maxLen) (w : World) (hz : CameRows w [.i64, .i64, .i64, .i64, .i64] A n Z) (hT : Tab w) :
    Calls Tryz.prog 3 #[.agg #[.int .i64 qa, .int .i64 qb, .int .i64 qc, .int .i64 qd, .int .i64 k], .slice A n c] w fun e w' => e = .returned (.bool true) ∧ Below w.heap.size w w' := by
  have AW := Lib.hid (fun w1 (h : Below w.heap.size w w1) => awake_any w1 (hT.below h))
  have LO := Lib.hid (fun w1 => long_any A n c w1 hn)
  have hbx := Lies.made w 24 #[.int .i64 qa, .int .i64 qb, .int .i64 qc, .int .i64 qd, .int .i64 k]
  have b0 := (Below.refl w.heap.size w).alloc (Nat.le_refl _) (.cells #[.int .i64 qa, .int .i64 qb, .int .i64 qc, .int .i64 qd, .int .i64 k] 24)
  have HZ := Lib.hid (And.intro hz hT)
  have hmx := hn
  unfold maxLen at hmx
  clear hz hT hn
  by_cases hs : Small qa qb qc qd k
  · have MY := Lib.hid (fun w1 => (may_any qa qb qc qd k w1).mono fun e w' h => And.intro (h.1.eq hs) h.2)
    by_cases hl : n ≤ 300
    · have hld : decide ((n : Int) > 300) = false := by simp; omega
      rw [hld] at LO
      have hg := small_ok hs
      have BG := Lib.hid (fun w1 (h : Below w.heap.size w w1) => begin_any hg (fun _ => 0) w1 (HZ.out.2.below h))
      have HG := Lib.hid hg
      clear hs hg hld
      go_enter Tryz.func3, Tryz.ntmps3
      go_wp2_with (first
        | (go_at_call 6
           refine (AW.out _ b0).mono ?_
           rintro e w1 ⟨rfl, b1⟩
           have hb1 := hbx.below b1 hbx.lt
           have o0 : w1.cell? ⟨w.heap.size, 0, none⟩ = some (.int .i64 qa) := hb1.cell 0
           have o1 : w1.cell? ⟨w.heap.size, 1, none⟩ = some (.int .i64 qb) := hb1.cell 1
           have o2 : w1.cell? ⟨w.heap.size, 2, none⟩ = some (.int .i64 qc) := hb1.cell 2
           have o3 : w1.cell? ⟨w.heap.size, 3, none⟩ = some (.int .i64 qd) := hb1.cell 3
           have o4 : w1.cell? ⟨w.heap.size, 4, none⟩ = some (.int .i64 k) := hb1.cell 4
           have B1 := Lib.hid (b0.trans (b1.mono b0.size))
           have H1 := Lib.hid hb1
           clear hb1 b1)
        | (go_at_call 7
           refine (MY.out _).mono ?_
           rintro e w2 ⟨rfl, t2⟩
           have hb2 := H1.out.turns t2 (fun h => h)
           have o0' : w2.cell? ⟨w.heap.size, 0, none⟩ = some (.int .i64 qa) := hb2.cell 0
           have o1' : w2.cell? ⟨w.heap.size, 1, none⟩ = some (.int .i64 qb) := hb2.cell 1
           have o2' : w2.cell? ⟨w.heap.size, 2, none⟩ = some (.int .i64 qc) := hb2.cell 2
           have o3' : w2.cell? ⟨w.heap.size, 3, none⟩ = some (.int .i64 qd) := hb2.cell 3
           have o4' : w2.cell? ⟨w.heap.size, 4, none⟩ = some (.int .i64 k) := hb2.cell 4
           have B2 := Lib.hid (B1.out.trans (t2.below B1.out.size (fun _ h => h.elim)))
           clear hb2 t2 o0 o1 o2 o3 o4)
        | (go_at_call 8
           refine (LO.out _).mono ?_
           rintro e w3 ⟨rfl, rfl⟩)
        | (go_at_call 9
           refine (BG.out _ B2.out).mono ?_
           rintro e w4 ⟨x, q, p, b, rfl, hc, hTr, b4, hx, hq, hp, hbb, hxo, hx4⟩
           have S4 := Lib.hid (Ws.first HG.out (fun _ => 0) (fun _ => .slice none 0 0) hc hTr hxo)
           have B4 := Lib.hid (B2.out.trans (b4.mono B2.out.size))
           clear hc hTr b4 o0' o1' o2' o3' o4'))
      have hxg : x ≠ 0 := fun e => by have := HZ.out.2.1; have := B2.out.size; omega
      have hsB : w.heap.size ≤ w4.heap.size := B4.out.size
      have hsx := B2.out.size
      generalize hBB : w4.heap.size = B at *
      have DO := Lib.hid (fun (w5 : World) (e5 : Int) M5 N5 blk5 fv5 al5 full5 (h5 : Ws w5 x q p b e5 ⟨⟨qa, qb, qc, qd⟩, k⟩ M5 N5 B blk5 fv5 al5 false full5 Gk.any) (hN : N5 ≤ 1000) (he : e5 ≤ 900000000) => fun k0 a0 b0 c0 n0 => h5.do_any hxg hN he k0 a0 b0 c0 n0)
      have SEE := Lib.hid (fun (w5 : World) (e5 : Int) M5 N5 blk5 fv5 al5 full5 K5 (h5 : Ws w5 x q p b e5 ⟨⟨qa, qb, qc, qd⟩, k⟩ M5 N5 B blk5 fv5 al5 false full5 K5) (hN : N5 ≤ 100000) => h5.sees hN)
      have INC := Lib.hid (fun (w5 : World) (e5 : Int) M5 N5 blk5 fv5 al5 full5 K5 (h5 : Ws w5 x q p b e5 ⟨⟨qa, qb, qc, qd⟩, k⟩ M5 N5 B blk5 fv5 al5 false full5 K5) (he : e5 + (50 : Nat) ≤ 1000000000) => (show Calls _ _ #[.pointer (some ⟨q, 0, none⟩), .int .i64 50] w5 _ from h5.incs 50 (by omega) he))
      have HI : Hid (∀ i, (DoT x q p b B i ∨ Own3 q p b i) → w.heap.size ≤ i) := fun i h => h.elim (fun h => h.hi (by omega) (by omega) (by omega) (by omega) hsB) (fun h => DoT.hi (x := x) (B := B) (.inl (.inr h)) (by omega) (by omega) (by omega) (by omega) hsB)
      clear AW LO MY BG HG b0 hbx hx hq hp hbb hxo hx4
      go_loopw [26] (fun v wr => ∃ (j : Nat) (e5 : Int) (M5 : Md) (N5 : Nat) (blk5 : Nat → Nat) (fv5 : Nat → Value) (al5 : Value) (full5 : Bool), j ≤ n ∧ v = .int .i64 j ∧ N5 ≤ j ∧ e5 ≤ 300 * j ∧ Ws wr x q p b e5 ⟨⟨qa, qb, qc, qd⟩, k⟩ M5 N5 B blk5 fv5 al5 false full5 Gk.any ∧ Below w.heap.size w wr) (fun v _ => n - (intOf v).toNat)
      case atStart => exact ⟨0, _, _, _, _, _, _, _, by omega, rfl, Nat.le_refl _, by omega, S4.out, B4.out⟩
      case round =>
        clear S4 B4
        obtain ⟨j, e5, M5, N5, blk5, fv5, al5, full5, hj, rfl, hN5, he5, s5, hb5⟩ := hrel
        by_cases hjn : j < n
        · obtain ⟨g, off, rfl, hg, hcell⟩ := HZ.out.1.at_ hb5 hjn
          have c0 := hcell 0 _ rfl
          have c1 := hcell 1 _ rfl
          have c2 := hcell 2 _ rfl
          have c3 := hcell 3 _ rfl
          have c4 := hcell 4 _ rfl
          simp only [List.length_cons, List.length_nil, Nat.reduceAdd, Nat.add_zero, ← Nat.add_assoc] at c0 c1 c2 c3 c4
          have S5 := Lib.hid s5
          have B5 := Lib.hid hb5
          have hsz5 := hb5.size
          have hjz : (0 : Int) ≤ (j : Int) := by omega
          clear s5 hb5 hcell
          generalize Z j 0 = z0 at *
          generalize Z j 1 = z1 at *
          generalize Z j 2 = z2 at *
          generalize Z j 3 = z3 at *
          generalize Z j 4 = z4 at *
          go_wp2_with (
            go_at_call 10
            refine (DO.out _ _ _ _ _ _ _ _ (S5.out.quiet ((Turns.refl (fun _ => False) wr).alloc _)) (by omega) (by omega) _ _ _ _ _).mono ?_
            rintro r w6 ⟨rfl, ⟨e6, M6, N6, blk6, fv6, al6, full6, he6, hN6, s6⟩, t6⟩
            have m18 : w6.cell? ⟨x, 18, none⟩ = some (.bool false) := (s6.cells.cell 18).trans rfl
            have S6 := Lib.hid s6
            have B6 := Lib.hid ((B5.out.alloc B5.out.size (.cells #[.int .i64 z0, .int .i64 z1, .int .i64 z2, .int .i64 z3, .int .i64 z4] 32)).trans (t6.below (by simp; omega) (fun i hi => HI.out i (.inl hi))))
            clear s6 t6)
          go_roundw
          case rel => exact ⟨j + 1, e6, M6, N6, blk6, fv6, al6, full6, by omega, by go_num, by omega, by omega, S6.out, B6.out⟩
          case measure => simp [intOf]; omega
        · obtain rfl : j = n := by omega
          have S5 := Lib.hid s5
          have B5 := Lib.hid hb5
          clear s5 hb5
          go_wp2_with (first
            | (go_at_call 11
               refine (SEE.out _ _ _ _ _ _ _ _ _ S5.out (by omega)).mono ?_
               rintro r w6 ⟨rfl, s6, t6⟩
               have m0 : w6.cell? ⟨x, 0, none⟩ = some (.pointer (some ⟨q, 0, none⟩)) := s6.cells.cell 0
               have S6 := Lib.hid s6
               have B6 := Lib.hid (B5.out.trans (t6.below B5.out.size (fun i hi => HI.out i (.inr hi))))
               clear s6 t6 S5 B5)
            | (go_at_call 12
               refine (INC.out _ _ _ _ _ _ _ _ _ S6.out (by omega)).mono ?_
               rintro r w7 ⟨rfl, s7, t7⟩
               have S7 := Lib.hid s7
               have B7 := Lib.hid (B6.out.trans (t7.below B6.out.size (fun i hi => HI.out i (.inr hi))))
               clear s7 t7 S6 B6 m0)
            | (go_at_call 11
               refine (SEE.out _ _ _ _ _ _ _ _ _ S7.out (by omega)).mono ?_
               rintro r w8 ⟨rfl, s8, t8⟩
               have m18 : w8.cell? ⟨x, 18, none⟩ = some (.bool false) := (s8.cells.cell 18).trans rfl
               have B8 := Lib.hid (B7.out.trans (t8.below B7.out.size (fun i hi => HI.out i (.inr hi))))
               clear s8 t8 S7 B7))
          go_ret
          exact ⟨rfl, B8.out⟩
    · have hld : decide ((n : Int) > 300) = true := by simp; omega
      rw [hld] at LO
      clear hs hld
      go_enter Tryz.func3, Tryz.ntmps3
      go_wp2_with (first
        | (go_at_call 6
           refine (AW.out _ b0).mono ?_
           rintro e w1 ⟨rfl, b1⟩
           have hb1 := hbx.below b1 hbx.lt
           have o0 : w1.cell? ⟨w.heap.size, 0, none⟩ = some (.int .i64 qa) := hb1.cell 0
           have o1 : w1.cell? ⟨w.heap.size, 1, none⟩ = some (.int .i64 qb) := hb1.cell 1
           have o2 : w1.cell? ⟨w.heap.size, 2, none⟩ = some (.int .i64 qc) := hb1.cell 2
           have o3 : w1.cell? ⟨w.heap.size, 3, none⟩ = some (.int .i64 qd) := hb1.cell 3
           have o4 : w1.cell? ⟨w.heap.size, 4, none⟩ = some (.int .i64 k) := hb1.cell 4
           have B1 := b0.trans (b1.mono b0.size)
           clear hb1 b1 hbx b0)
        | (go_at_call 7
           refine (MY.out _).mono ?_
           rintro e w2 ⟨rfl, t2⟩
           have B2 := B1.trans (t2.below B1.size (fun _ h => h.elim))
           clear t2 o0 o1 o2 o3 o4)
        | (go_at_call 8
           refine (LO.out _).mono ?_
           rintro e w3 ⟨rfl, rfl⟩)
        | (go_at_call 6
           refine (AW.out _ B2).mono ?_
           rintro e w4 ⟨rfl, b4⟩))
      go_ret
      exact ⟨rfl, B2.trans (b4.mono B2.size)⟩
  · have MY := Lib.hid (fun w1 => (may_any qa qb qc qd k w1).mono fun e w' h => And.intro (h.1.ne hs) h.2)
    clear hs
    go_enter Tryz.func3, Tryz.ntmps3
    go_wp2_with (first
      | (go_at_call 6
         refine (AW.out _ b0).mono ?_
         rintro e w1 ⟨rfl, b1⟩
         have hb1 := hbx.below b1 hbx.lt
         have o0 : w1.cell? ⟨w.heap.size, 0, none⟩ = some (.int .i64 qa) := hb1.cell 0
         have o1 : w1.cell? ⟨w.heap.size, 1, none⟩ = some (.int .i64 qb) := hb1.cell 1
         have o2 : w1.cell? ⟨w.heap.size, 2, none⟩ = some (.int .i64 qc) := hb1.cell 2
         have o3 : w1.cell? ⟨w.heap.size, 3, none⟩ = some (.int .i64 qd) := hb1.cell 3
         have o4 : w1.cell? ⟨w.heap.size, 4, none⟩ = some (.int .i64 k) := hb1.cell 4
         have B1 := b0.trans (b1.mono b0.size)
         clear hb1 b1 hbx b0)
      | (go_at_call 7
         refine (MY.out _).mono ?_
         rintro e w2 ⟨rfl, t2⟩
         have B2 := B1.trans (t2.below B1.size (fun _ h => h.elim))
         clear t2 o0 o1 o2 o3 o4)
      | (go_at_call 6
         refine (AW.out _ B2).mono ?_
         rintro e w4 ⟨rfl, b4⟩))
    go_ret
    exact ⟨rfl, B2.trans (b4.mono B2.size)⟩
end Go.Proofs.YtfogfafanfiffaaGreatDoor

/- The laws' own world: what is read of a weak thing whose key is reached. -/
namespace Go.Proofs.YtfogfafanfiffaaGreatDoor
open Go.RowKit

theorem Ws.getw {w : World} {x q p b z j : Nat} {e : Int} {G : Geo} {M : Md} {N B : Nat} {blk : Nat → Nat} {fv : Nat → Value} {al : Value} {bad full : Bool} {K : Gk} (s : Ws w x q p b e G M N B blk fv al bad full K) (hz : Reach M z) (hf : M.form z = 3) (h0 : (M.fld z 0).Has (Reach M)) (hj : j < 2) :
    Calls Tryz.prog 18 #[.pointer (some ⟨q, 0, none⟩), .int .u64 (8 * M.cell z + 1), .int .i64 (j : Int)] w fun r w' => r = .returned (.tuple #[.int .u64 ((M.fld z j).wd M.cell), .nilIface]) ∧ Ws w' x q p b e G M N B blk fv al bad full K.quiet ∧ Turns (Own3 q p b) w w' := by
  obtain ⟨H, R, A, D, h, hs, hk⟩ := s.heap
  have hA := hs.reach hz
  have hl := (hs.ct.kind z hA).2 hf
  have k0 := V.Has.mono (fun i hi => hs.reach hi) h0
  obtain ⟨w0, w1, k1⟩ := hs.whole hA hf k0
  obtain ⟨kk, h4, hk13, hx⟩ := hs.ring hA
  obtain ⟨hC, e1, e2, -⟩ := hs.sees hA
  have hv : (M.fld z j).ok := hs.ct.goodf z hA (by omega) j (by omega)
  have hvA : (M.fld z j).Has A := by
    rcases (show j = 0 ∨ j = 1 by omega) with rfl | rfl
    · exact k0
    · exact k1
  have hw : gv H.ws (M.cell z + 3 + (j : Int)) = (M.fld z j).wd M.cell := by
    rcases (show j = 0 ∨ j = 1 by omega) with rfl | rfl
    · rw [show M.cell z + 3 + ((0 : Nat) : Int) = M.cell z + 3 by omega, w0]
    · rw [show M.cell z + 3 + ((1 : Nat) : Int) = M.cell z + 4 by omega, w1]
  refine (Get_yes hs.inv (M.cell z) h4 hk13 hx (j : Int) (by omega) (by omega) w h).mono ?_
  rintro r w' ⟨rfl, h1, ht⟩
  rw [if_pos (by omega), hw] at h1
  rw [hw]
  obtain ⟨v0, v1, -⟩ := hs.ct.wd hs.inv.ok hv (V.Has.mono hs.ct.sub hvA)
  exact ⟨rfl, s.moved ht ⟨_, _, A, D, h1, (hs.shade hv hvA).1, Gk.quiet_low (shade_q hs.inv hk v0 v1)⟩, ht⟩
end Go.Proofs.YtfogfafanfiffaaGreatDoor
