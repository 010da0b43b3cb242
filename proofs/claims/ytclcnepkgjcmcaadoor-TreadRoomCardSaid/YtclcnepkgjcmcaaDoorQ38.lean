/- The laws' own world: sees. -/
import Derived.Test.YtclcnepkgjcmcaaDoorQ31
namespace Go.Proofs.YtclcnepkgjcmcaaDoor
open Go.RowKit

section
variable {w w' : World} {x q p b r g n : Nat} {sn : Array Nat} {e : Int} {G : Geo} {M : Md} {N B z j : Nat} {blk : Nat → Nat} {fv : Nat → Value} {al : Value} {bad full : Bool} {K : Gk}
theorem row_not_iter {t : TypeId} {s m : Nat} {v : Value} {cs : List Value} (h : w.ownsRow B t s v m cs) (k : PIter w r g n sn) : ∀ i, v.ownBlock = some i → i ≠ r := fun i hi e => by
  subst e
  rcases h.2 with ⟨rfl, _⟩ | ⟨g', cap, cur, rfl, _, hh, _⟩
  · simp [Value.ownBlock] at hi
  · have : g' = i := by simpa [Value.ownBlock] using hi
    subst this
    unfold PIter at k
    rw [k] at hh
    cases hh
theorem Ws.iter (s : Ws w x q p b e G M N B blk fv al bad full K) (k : PIter w r g n sn) (hr : B ≤ r) (t : Turns (fun k => k = r) w w') : Ws w' x q p b e G M N B blk fv al bad full K := by
  obtain ⟨H, R, A, D, h, hs, hk⟩ := s.heap
  have := s.lq; have := s.lp; have := s.lb
  exact ⟨s.cells.turns t (fun e => by have := s.lx; omega), s.things.turns t (fun i hi e => k.apart (s.things.here i hi) e.symm) (fun i hi g hg => row_not_iter (s.things.rows i hi) k g hg), s.all.turns t (fun g hg => row_not_iter s.all k g hg), ⟨H, R, A, D, h.turns t (fun e => by omega) (fun e => by omega) (fun e => by omega) (fun e => by have := h.apart; omega), hs, hk⟩, s.lq, s.lp, s.lb, s.lx, s.apart, s.high, Nat.le_trans s.sz t.size⟩
end

set_option maxHeartbeats 2000000 in
set_option maxRecDepth 100000 in
theorem Ws.sees {w : World} {x q p b : Nat} {e : Int} {G : Geo} {M : Md} {N B : Nat} {blk : Nat → Nat} {fv : Nat → Value} {al : Value} {bad full : Bool} {K : Gk} (s : Ws w x q p b e G M N B blk fv al bad full K) (hN : N ≤ 100000) :
    Calls Tryd.prog 9 #[.pointer (some ⟨x, 0, none⟩)] w fun r w' => r = .returned (.bool true) ∧ Ws w' x q p b e G M N B blk fv al bad full K ∧ Turns (Own3 q p b) w w' := by
  have RE := Lib.hid (s.reached hN)
  have RG := Lib.hid (fun w1 g es c hb => run_range_map (P := Tryd.prog) w1 33 37 4 g es c Tryd.underlying33 hb)
  have hBs := s.sz
  clear s
  go_enter Tryd.func9, Tryd.ntmps9
  go_wp2_with (first
    | (go_at_call 8
       refine RE.out.mono ?_
       rintro r w1 ⟨g, is, rfl, pm, hg, hiff, hlow, hnd, s1, t1⟩
       have hkl : ∀ j, j < is.length → (is.map blk).getD j 0 = blk (is.getD j 0) := fun j hj => by simp [List.getD, hj]
       have hll : Hid ((is.map blk).length = is.length) := List.length_map _
       generalize is.map blk = ks at *
       have hrg := RG.out w1 g _ _ pm))
  have hm1 := pm.turns ((Turns.refl (fun _ => False) w1).alloc (.mapIter (some g) ks.length #[] ks.length)) (fun h => h)
  have hi1 := PIter.made w1 g ks.length
  have s2 := s1.quiet ((Turns.refl (fun _ => False) w1).alloc (.mapIter (some g) ks.length #[] ks.length))
  have t2 := t1.alloc (.mapIter (some g) ks.length #[] ks.length)
  have hBr := Nat.le_trans hBs t1.size
  have HH := Lib.hid (And.intro hiff (And.intro hlow (And.intro hkl hll)))
  have hwr := t1.size
  clear pm hrg s1 t1 hiff hlow hnd hkl hll
  generalize hrr : w1.heap.size = r at *
  go_loopw [] (fun wr => ∃ sn : Array Nat, Ws wr x q p b e G M N B blk fv al bad full K ∧ PMap wr g ks ∧ PIter wr r g ks.length sn ∧ Turns (Own3 q p b) w wr) (fun wr => leftW wr r g)
  case atStart => exact ⟨_, s2, hm1, hi1, t2.mono fun _ _ h => h.elim⟩
  case round =>
    clear s2 hm1 hi1 t2
    obtain ⟨sn, hs, hm, hi, ht⟩ := hrel
    rcases hi.next hm with ⟨-, hnx⟩ | ⟨j, hj, hsn, hsh, w2, hw2, hnx⟩
    · have HE := Lib.hid (And.intro hs ht)
      clear hs hm hi ht
      go_wp2_with fail
      go_ret
      exact ⟨rfl, HE.out.1, HE.out.2⟩
    · have tq : Turns (fun k => k = r) wr (Go.ChangeMaps.setBlock w2 r (.mapIter (some g) ks.length (sn.push j) ks.length)) := by
        refine Turns.setBlock (X := fun k => k = r) ?_ (fun _ => rfl) _
        rcases hw2 with rfl | rfl
        · exact Turns.refl _ _
        · exact (Turns.refl _ _).drew
      have hr2 : w2.heap[r]? = some (.mapIter (some g) ks.length sn ks.length) := by
        rcases hw2 with rfl | rfl <;> exact hi
      have hi2 := PIter.set (g := g) (n := ks.length) hr2 (sn.push j)
      have hs2 := hs.iter hi hBr tq
      have hm2 := hm.turns tq (hi.other hm)
      have hne : r ≠ x := hi.apart hs.cells
      have ht2 : Turns (Own3 q p b) w (Go.ChangeMaps.setBlock w2 r (.mapIter (some g) ks.length (sn.push j) ks.length)) := ht.then tq (fun i hi2 e => by omega)
      have hen := hi2.entry hm2 hj
      have hj2 : j < is.length := by rw [← HH.out.2.2.2.out]; exact hj
      have hzz := HH.out.2.2.1 j hj2
      rw [hzz] at hnx hen
      have hzm : is.getD j 0 ∈ is := by simp [List.getD, hj2]
      generalize is.getD j 0 = z at *
      have hzR := (HH.out.1 z).1 hzm
      have hzN := HH.out.2.1 z hzm
      have HL : Hid (leftW wr r g = (leftOf (entsFrom ks 0).toArray sn).size ∧ (leftOf (entsFrom ks 0).toArray (sn.push j)).size < (leftOf (entsFrom ks 0).toArray sn).size) := ⟨hi.left hm, hsh⟩
      generalize Go.ChangeMaps.setBlock w2 r (.mapIter (some g) ks.length (sn.push j) ks.length) = w3 at *
      have here := hs2.things.here z hzN
      have d2 : w3.cell? ⟨blk z, 2, none⟩ = some (.int .u64 (8 * M.cell z + 1)) := here.cell 2
      have d2' : w3.drew.cell? ⟨blk z, 2, none⟩ = some (.int .u64 (8 * M.cell z + 1)) := here.cell 2
      have p0 : w3.cell? ⟨x, 0, none⟩ = some (.pointer (some ⟨q, 0, none⟩)) := hs2.cells.cell 0
      have p0' : w3.drew.cell? ⟨x, 0, none⟩ = some (.pointer (some ⟨q, 0, none⟩)) := hs2.cells.cell 0
      have SH := Lib.hid (fun w4 (h4 : Ws w4 x q p b e G M N B blk fv al bad full K) => h4.shape hzR)
      have HE := Lib.hid (And.intro hs2 (And.intro hm2 (And.intro hi2 ht2)))
      have hzB := hs2.high z hzN
      clear hs hm hi ht tq hr2 hs2 hm2 hi2 ht2 here hsh
      go_wp2_with fail
      go_region_with (first
        | (go_at_call 16
           refine (SH.out _ (HE.out.1.quiet (Turns.refl (fun _ => False) _).drew)).mono ?_
           rintro r4 w4 ⟨t4, rfl, s4, tt4⟩))
      all_goals
        have tt : Turns (Own3 q p b) w3 w4 := Turns.of_drew tt4
        have hgB : ¬ Own3 q p b g := s4.not3 (by omega)
        have hrB : ¬ Own3 q p b r := s4.not3 (by omega)
        have hm4 := HE.out.2.1.turns tt hgB
        have hi4 := HE.out.2.2.1.turns tt hrB
        have ht4 := HE.out.2.2.2.trans tt
        have here4 := s4.things.here z hzN
        have row4 := s4.things.rows z hzN
        obtain ⟨Af, cf, hfv, hfr⟩ := row4.read
        have d0 : w4.cell? ⟨blk z, 0, none⟩ = some (.int .i64 (M.form z)) := here4.cell 0
        have d1 : w4.cell? ⟨blk z, 1, none⟩ = some (.slice Af (M.len z) cf) := by rw [← hfv]; exact here4.cell 1
        have hnb := row4.small
        unfold maxLen at hnb
        have HF := Lib.hid (And.intro s4 (And.intro hm4 (And.intro hi4 (And.intro ht4 (And.intro hfv hfr)))))
        clear s4 hm4 hi4 ht4 here4 row4 hfv hfr tt4 tt d2 d2' p0 p0'
        by_cases hf : M.form z = 3
        · have hfb : (M.form z == 3) = true := by simpa using hf
          clear hf
          generalize M.form z = ft at *
          generalize M.len z = ln at *
          go_wp2_with fail
          go_roundw
          case rel => exact ⟨_, HF.out.1, HF.out.2.1, HF.out.2.2.1, HF.out.2.2.2.1⟩
          case measure =>
            rw [HF.out.2.2.1.left HF.out.2.1, HL.out.1]
            exact HL.out.2
        · have hfb : (M.form z == 3) = false := by simpa using hf
          have HG := Lib.hid hf
          clear hf
          generalize hft : M.form z = ft at *
          generalize hln : M.len z = ln at *
          generalize hbz : blk z = bz at *
          go_wp2_with fail
          go_loopw [62] (fun v wr5 => ∃ i : Nat, i ≤ ln ∧ v = .int .i64 i ∧ Ws wr5 x q p b e G M N B blk fv al bad full K ∧ PMap wr5 g ks ∧ PIter wr5 r g ks.length (sn.push j) ∧ Turns (Own3 q p b) w wr5) (fun v _ => ln - (intOf v).toNat)
          case atStart => exact ⟨0, by omega, rfl, HF.out.1, HF.out.2.1, HF.out.2.2.1, HF.out.2.2.2.1⟩
          case round =>
            obtain ⟨i, hi, rfl, s5, m5, i5, t5⟩ := hrel
            by_cases hil : i < ln
            · obtain ⟨A5, c5, hfv5, hr5⟩ := (s5.things.rows z hzN).read
              rw [HF.out.2.2.2.2.1] at hfv5
              injection hfv5 with h51 h52 h53
              subst h51
              obtain ⟨g5, rfl, hg5, v0, v1⟩ := hr5 i (by rw [hln]; exact hil)
              have here5 := s5.things.here z hzN
              have hvN := s5.things.named z hzN i (by rw [hln]; exact hil)
              have d2 : wr.cell? ⟨bz, 2, none⟩ = some (.int .u64 (8 * M.cell z + 1)) := by rw [← hbz]; exact here5.cell 2
              have p0 : wr.cell? ⟨x, 0, none⟩ = some (.pointer (some ⟨q, 0, none⟩)) := s5.cells.cell 0
              have hzb : bz < wr.heap.size := by rw [← hbz]; exact here5.lt
              have hzx : x < wr.heap.size := s5.cells.lt
              have GE := Lib.hid (fun w4 (h4 : Ws w4 x q p b e G M N B blk fv al bad full K) => h4.get hzR (by rw [hft]; exact HG.out) (j := i) (by rw [hln]; exact hil))
              have WE := Lib.hid (fun w4 (h4 : Ws w4 x q p b e G M N B blk fv al bad full K) => h4.word hvN)
              have hsz5 := s5.sz
              rw [vg_eq] at WE
              generalize hwd : (M.fld z i).wd M.cell = wd at *
              obtain ⟨y, hy⟩ : ∃ y, vw (M.fld z i) = .int .u64 y := by cases M.fld z i <;> exact ⟨_, rfl⟩
              obtain ⟨P, hP⟩ : ∃ P, vp blk (M.fld z i) = .pointer P := by cases M.fld z i <;> exact ⟨_, rfl⟩
              rw [hy] at v0 WE
              rw [hP] at v1 WE
              have HI := Lib.hid (And.intro s5 (And.intro m5 (And.intro i5 t5)))
              have hne : (wd != wd) = false := by simp
              clear s5 m5 i5 t5 here5 hvN hy hP hwd h52 h53 hr5
              go_wp2_with fail
              go_region_with (first
                | (go_at_call 23
                   refine (GE.out _ ((HI.out.1.quiet ((Turns.refl (fun _ => False) wr).alloc (.cells #[.int .u64 y, .pointer P] 39))).quiet (Turns.refl (fun _ => False) _).drew)).mono ?_
                   rintro r6 w6 ⟨rfl, s6, tt6⟩))
              all_goals
                have T6 : Turns (Own3 q p b) wr w6 := (((Turns.refl _ wr).alloc _).drew).trans tt6
                have hgB : ¬ Own3 q p b g := HI.out.1.not3 (by omega)
                have hrB : ¬ Own3 q p b r := HI.out.1.not3 (by omega)
                have m6 := HI.out.2.1.turns T6 hgB
                have i6 := HI.out.2.2.1.turns T6 hrB
                have t6 := HI.out.2.2.2.trans T6
                have hX6 : Lies w6 wr.heap.size 39 [.int .u64 y, .pointer P] := (Lies.made wr 39 #[.int .u64 y, .pointer P]).drew.turns tt6 (HI.out.1.not3 hsz5)
                have k0 : w6.cell? ⟨wr.heap.size, 0, none⟩ = some (.int .u64 y) := hX6.cell 0
                have k1 : w6.cell? ⟨wr.heap.size, 1, none⟩ = some (.pointer P) := hX6.cell 1
                have HJ := Lib.hid (And.intro s6 (And.intro m6 (And.intro i6 t6)))
                clear s6 m6 i6 t6 tt6 T6 v0 v1 d2 p0
                go_wp2_with (
                  go_at_call 24
                  refine (WE.out _ HJ.out.1).mono ?_
                  rintro r7 w7 ⟨rfl, s7, tt7⟩)
                go_roundw
                case rel => exact ⟨i + 1, by omega, by go_num, s7, HJ.out.2.1.turns tt7 (fun h => h), HJ.out.2.2.1.turns tt7 (fun h => h), HJ.out.2.2.2.trans (tt7.mono fun _ _ h => h.elim)⟩
                case measure => simp [intOf]; omega
            · obtain rfl : i = ln := by omega
              have HI := Lib.hid (And.intro s5 (And.intro m5 (And.intro i5 t5)))
              clear s5 m5 i5 t5
              go_wp2_with fail
              go_roundw
              case rel => exact ⟨_, HI.out.1, HI.out.2.1, HI.out.2.2.1, HI.out.2.2.2⟩
              case measure =>
                rw [HI.out.2.2.1.left HI.out.2.1, HL.out.1]
                exact HL.out.2
end Go.Proofs.YtclcnepkgjcmcaaDoor
