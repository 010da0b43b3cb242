/- Package scope: isWithin, freeIn, Free. -/
import Derived.Test.YtpiekdcbjkgipaaGreatQ31
import Derived.Test.YtpiekdcbjkgipaaGreatQ6
import Derived.Deep.Cut
import Derived.Deep.CutRange
import Derived.Deep.CutBlock
namespace Go.Proofs.YtpiekdcbjkgipaaGreat
open Go.ChangeShapes Go.WideShapes Go.ChangeAt Go.RowKit Go.Deep
open TM (Tl Tm)

theorem hi_snoc : ∀ (d : Tl) (x : Tm), TM.hi (d.snoc x) = max (TM.hi d) (TM.hi x.ks + 1)
  | .nil, x => by
    obtain ⟨k, n, s, ps, e, ks⟩ := x
    show max (TM.hi ks + 1) 0 = max 0 (TM.hi ks + 1)
    omega
  | .cons k n s ps e ks r, x => by
    show max (TM.hi ks + 1) (TM.hi (r.snoc x)) = max (max (TM.hi ks + 1) (TM.hi r)) (TM.hi x.ks + 1)
    rw [hi_snoc r x]
    omega
def IwOk (t : Tm) : Prop := ∀ (w : World) (vp vi vk : Value) (m : Nat), TmIn w t vp vi vk → m ≤ 1000 →
  Calls Tryz.prog 38 #[tmv t vp vi vk, .int .i64 (m : Int)] w fun e w' => e = .returned (.bool (decide (TM.hi t.ks + 1 ≤ m))) ∧ Went w w'
set_option maxRecDepth 100000 in
set_option maxHeartbeats 8000000 in
theorem iw_step (k n : Int) (s : List UInt8) (ps : List Int) (d : RM.Dm) (ks : Tl) (hR : ∀ i x, ks.at_ i = some x → IwOk x) : IwOk ⟨k, n, s, ps, d, ks⟩ := by
  intro w vp vi vk m hT hm
  obtain ⟨P3, p3, rfl⟩ := hT.p.read
  obtain ⟨I7, q7, rfl⟩ := hT.d.read
  obtain ⟨A1, c1, rfl⟩ := hT.k.read
  have hTk := hT.k
  have hlen := hTk.len
  simp only at hTk hlen ⊢
  obtain ⟨N, hN⟩ : ∃ N, ks.len = N := ⟨_, rfl⟩
  obtain ⟨L3, hL3⟩ : ∃ x, ps.length = x := ⟨_, rfl⟩
  obtain ⟨L7, hL7⟩ : ∃ x, d.is.len = x := ⟨_, rfl⟩
  obtain ⟨hh, hhh⟩ : ∃ x, TM.hi ks = x := ⟨_, rfl⟩
  unfold tmv
  simp only
  rw [hN] at hTk hlen ⊢
  rw [hL3, hL7, hhh]
  have hM := Lies.made w 28 #[.int .i64 k, .int .i64 n, .string ⟨s.toArray⟩, .slice P3 L3 p3, .int .i64 d.k, .int .i64 d.n, .string ⟨d.s.toArray⟩, .slice I7 L7 q7, .slice A1 N c1]
  have hba : Below w.heap.size w (w.alloc (.cells #[.int .i64 k, .int .i64 n, .string ⟨s.toArray⟩, .slice P3 L3 p3, .int .i64 d.k, .int .i64 d.n, .string ⟨d.s.toArray⟩, .slice I7 L7 q7, .slice A1 N c1] 28)) := (Below.refl _ w).alloc (Nat.le_refl _) _
  obtain ⟨W1, hW1⟩ : ∃ W1, w.alloc (.cells #[.int .i64 k, .int .i64 n, .string ⟨s.toArray⟩, .slice P3 L3 p3, .int .i64 d.k, .int .i64 d.n, .string ⟨d.s.toArray⟩, .slice I7 L7 q7, .slice A1 N c1] 28) = W1 := ⟨_, rfl⟩
  rw [hW1] at hM hba
  have y8 : W1.cell? ⟨w.heap.size, 8, none⟩ = some (.slice A1 N c1) := hM.cell 8
  have hN' := Lib.hid hN
  have hR' := Lib.hid hR
  have hhh' := Lib.hid hhh
  have hba' := Lib.hid hba
  clear hN hL3 hL7 hR hT hM hhh hba
  rcases Nat.eq_zero_or_pos m with rfl | hm0
  · go_enter Tryz.func38, Tryz.ntmps38
    go_wp2_with fail
    go_ret
    exact ⟨ret_b (by simp), hba'.out⟩
  · have e0 : ((m : Int) == 0) = false := by rw [beq_eq_false_iff_ne]; omega
    go_enter Tryz.func38, Tryz.ntmps38
    go_wp2_with fail
    go_loopw [12] (fun i wr => ∃ (j : Nat), j ≤ N ∧ i = .int .i64 j ∧ Hid (TM.hi (ks.tk j) + 1 ≤ m) ∧ Below w.heap.size w wr) (fun i _ => N - (RowKit.intOf i).toNat)
    case atStart => exact ⟨0, Nat.zero_le _, rfl, Lib.hid (by rw [Tl.tk_zero]; simp [TM.hi]; omega), hba'.out⟩
    case round =>
      obtain ⟨j, hj, rfl, hhj, hbr⟩ := hrel
      by_cases hlt : j < N
      · obtain ⟨x, hx⟩ := ks.at_some j (by rw [hN'.out]; exact hlt)
        obtain ⟨b, o, P5, p5, I5, q5, K5, r5, rfl, hb0, c10, c11, c12, c13, c14, c15, c16, c17, c18, hT5⟩ := (hTk.below hbr).at_ hx
        obtain ⟨W5, hW5⟩ : ∃ W5, wr.alloc (.cells #[.int .i64 x.k, .int .i64 x.n, .string ⟨x.s.toArray⟩, .slice P5 x.ps.length p5, .int .i64 x.d.k, .int .i64 x.d.n, .string ⟨x.d.s.toArray⟩, .slice I5 x.d.is.len q5, .slice K5 x.ks.len r5] 28) = W5 := ⟨_, rfl⟩
        have hk5 : Below wr.heap.size wr W5 := by rw [← hW5]; exact (Below.refl _ wr).alloc (Nat.le_refl _) _
        have hM5 : Lies W5 wr.heap.size 28 [.int .i64 x.k, .int .i64 x.n, .string ⟨x.s.toArray⟩, .slice P5 x.ps.length p5, .int .i64 x.d.k, .int .i64 x.d.n, .string ⟨x.d.s.toArray⟩, .slice I5 x.d.is.len q5, .slice K5 x.ks.len r5] := by
          rw [← hW5]; exact Lies.made _ _ _
        have z0 : W5.cell? ⟨wr.heap.size, 0, none⟩ = some (.int .i64 x.k) := hM5.cell 0
        have z1 : W5.cell? ⟨wr.heap.size, 1, none⟩ = some (.int .i64 x.n) := hM5.cell 1
        have z2 : W5.cell? ⟨wr.heap.size, 2, none⟩ = some (.string ⟨x.s.toArray⟩) := hM5.cell 2
        have z3 : W5.cell? ⟨wr.heap.size, 3, none⟩ = some (.slice P5 x.ps.length p5) := hM5.cell 3
        have z4 : W5.cell? ⟨wr.heap.size, 4, none⟩ = some (.int .i64 x.d.k) := hM5.cell 4
        have z5 : W5.cell? ⟨wr.heap.size, 5, none⟩ = some (.int .i64 x.d.n) := hM5.cell 5
        have z6 : W5.cell? ⟨wr.heap.size, 6, none⟩ = some (.string ⟨x.d.s.toArray⟩) := hM5.cell 6
        have z7 : W5.cell? ⟨wr.heap.size, 7, none⟩ = some (.slice I5 x.d.is.len q5) := hM5.cell 7
        have z8 : W5.cell? ⟨wr.heap.size, 8, none⟩ = some (.slice K5 x.ks.len r5) := hM5.cell 8
        have hC0 := hR'.out j x hx W5 _ _ _ (m - 1) (hT5.below hk5) (by omega)
        have em : ((m - 1 : Nat) : Int) = (m : Int) - 1 := by omega
        rw [em] at hC0
        have hC := Lib.hid hC0
        have hxh := TM.hi_in hx
        have htk := Tl.tk_snoc ks j x hx
        have hsn : TM.hi (ks.tk (j + 1)) = max (TM.hi (ks.tk j)) (TM.hi x.ks + 1) := by rw [htk, hi_snoc]
        have hsn' := Lib.hid hsn
        have hxh' := Lib.hid hxh
        have hb5 := Lib.hid (hbr.trans (hk5.mono hbr.size))
        unfold tmv at hC
        clear hC0 em hxh htk hsn hM5 hk5 hbr hT5 hx y8
        rcases Nat.lt_or_ge (TM.hi x.ks + 1) m with hlt2 | hge
        · have e1 : decide (TM.hi x.ks + 1 ≤ m - 1) = true := by rw [decide_eq_true_eq]; omega
          rw [e1] at hC
          have hl2 := Lib.hid hlt2
          clear e1 hlt2
          go_wp2_with (
            go_at_call 38
            refine hC.out.mono ?_
            rintro e w7 ⟨rfl, hb7⟩
            have hb8 := Lib.hid (hb5.out.trans (Below.mono hb7 hb5.out.size))
            clear hb7)
          go_roundw
          case rel => exact ⟨j + 1, by omega, by go_num, Lib.hid (by rw [hsn'.out]; have := hhj.out; have := hl2.out; omega), hb8.out⟩
          case measure => simp [RowKit.intOf]; omega
        · have e1 : decide (TM.hi x.ks + 1 ≤ m - 1) = false := by rw [decide_eq_false_iff_not]; omega
          rw [e1] at hC
          have hl2 := Lib.hid hge
          clear e1 hge
          go_wp2_with (
            go_at_call 38
            refine hC.out.mono ?_
            rintro e w7 ⟨rfl, hb7⟩
            have hb8 := Lib.hid (hb5.out.trans (Below.mono hb7 hb5.out.size))
            clear hb7)
          go_ret
          exact ⟨ret_b (by symm; rw [decide_eq_false_iff_not]; have := hl2.out; have := hxh'.out; have := hhh'.out; omega), hb8.out⟩
      · obtain rfl : j = N := by omega
        have hall : ks.tk j = ks := by rw [← hN'.out]; exact Tl.tk_all ks
        rw [hall] at hhj
        have hb8 := Lib.hid hbr
        clear hbr hall y8
        go_wp2_with fail
        go_ret
        exact ⟨ret_b (by symm; rw [decide_eq_true_eq, ← hhh'.out]; exact hhj.out), hb8.out⟩
theorem within_all (t : Tm) : IwOk t := Tl.all_one _ iw_step t
/-- the locals that are named and not bound by what stands around them -/
def frl : Tl → List Int
  | .nil => []
  | .cons k n _ ps _ ks r => ((if k = 2 ∨ k = 4 then [n] else []) ++ frl ks).filter (fun x => !(decide (k = 8) && ps.contains x)) ++ frl r
def fr1 (t : Tm) : List Int := ((if t.k = 2 ∨ t.k = 4 then [t.n] else []) ++ frl t.ks).filter (fun x => !(decide (t.k = 8) && t.ps.contains x))
theorem frl_snoc : ∀ (d : Tl) (x : Tm), frl (d.snoc x) = frl d ++ fr1 x
  | .nil, x => by
    obtain ⟨k, n, s, ps, e, ks⟩ := x
    show frl (.cons k n s ps e ks .nil) = _
    simp [frl, fr1]
  | .cons k n s ps e ks r, x => by
    show (_ ++ frl (r.snoc x)) = _
    rw [frl_snoc r x]; simp [frl]
def FrOk (t : Tm) : Prop := ∀ (w : World) (vp vi vk : Value), TmIn w t vp vi vk → TmBd t → TM.sz t.ks ≤ 5000 →
  Calls Tryz.prog 39 #[tmv t vp vi vk] w fun e w' => ∃ q, e = .returned (.map (some q)) ∧ w.heap.size ≤ q ∧ Ls w' q (TM.sz t.ks + 1) (fun x => (fr1 t).contains x) ∧ Went w w'
set_option maxRecDepth 100000 in
set_option maxHeartbeats 8000000 in
theorem fr_step (k n : Int) (s : List UInt8) (ps : List Int) (d : RM.Dm) (ks : Tl) (hR : ∀ i x, ks.at_ i = some x → FrOk x) : FrOk ⟨k, n, s, ps, d, ks⟩ := by
  intro w vp vi vk hT hB hsz
  obtain ⟨P3, p3, rfl⟩ := hT.p.read
  obtain ⟨I7, q7, rfl⟩ := hT.d.read
  obtain ⟨A1, c1, rfl⟩ := hT.k.read
  have hTk := hT.k
  have hTp := hT.p
  have hBk := hB.ks
  have hBn := hB.n
  have hBp := hB.p
  have hlen := hTk.len
  have hmm := @run_makeMap Tryz.prog
  simp only at hTk hTp hlen hBk hBn hBp hsz ⊢
  obtain ⟨N, hN⟩ : ∃ N, ks.len = N := ⟨_, rfl⟩
  obtain ⟨L3, hL3⟩ : ∃ x, ps.length = x := ⟨_, rfl⟩
  obtain ⟨L7, hL7⟩ : ∃ x, d.is.len = x := ⟨_, rfl⟩
  have hkl := TM.len_sz ks
  unfold tmv
  simp only
  rw [hN] at hTk hlen ⊢
  rw [hL3] at hTp ⊢
  rw [hL7]
  have hM := (Lies.made w 28 #[.int .i64 k, .int .i64 n, .string ⟨s.toArray⟩, .slice P3 L3 p3, .int .i64 d.k, .int .i64 d.n, .string ⟨d.s.toArray⟩, .slice I7 L7 q7, .slice A1 N c1]).alloc (.map #[] 0)
  have hba : Below w.heap.size w ((w.alloc (.cells #[.int .i64 k, .int .i64 n, .string ⟨s.toArray⟩, .slice P3 L3 p3, .int .i64 d.k, .int .i64 d.n, .string ⟨d.s.toArray⟩, .slice I7 L7 q7, .slice A1 N c1] 28)).alloc (.map #[] 0)) := ((Below.refl _ w).alloc (Nat.le_refl _) _).alloc (by simp) _
  have hL0 := Ls.made (w.alloc (.cells #[.int .i64 k, .int .i64 n, .string ⟨s.toArray⟩, .slice P3 L3 p3, .int .i64 d.k, .int .i64 d.n, .string ⟨d.s.toArray⟩, .slice I7 L7 q7, .slice A1 N c1] 28))
  have hz1 : (w.alloc (.cells #[.int .i64 k, .int .i64 n, .string ⟨s.toArray⟩, .slice P3 L3 p3, .int .i64 d.k, .int .i64 d.n, .string ⟨d.s.toArray⟩, .slice I7 L7 q7, .slice A1 N c1] 28)).heap.size = w.heap.size + 1 := by simp
  rw [hz1] at hL0
  obtain ⟨W1, hW1⟩ : ∃ W1, (w.alloc (.cells #[.int .i64 k, .int .i64 n, .string ⟨s.toArray⟩, .slice P3 L3 p3, .int .i64 d.k, .int .i64 d.n, .string ⟨d.s.toArray⟩, .slice I7 L7 q7, .slice A1 N c1] 28)).alloc (.map #[] 0) = W1 := ⟨_, rfl⟩
  rw [hW1] at hM hba hL0
  have x0 : W1.cell? ⟨w.heap.size, 0, none⟩ = some (.int .i64 k) := hM.cell 0
  have x1 : W1.cell? ⟨w.heap.size, 1, none⟩ = some (.int .i64 n) := hM.cell 1
  have hA := Lib.hid (ladd_any W1 (w.heap.size + 1) 0 _ n hL0 (by omega) hBn)
  obtain ⟨P1, hP1⟩ : ∃ l, (if k = 2 ∨ k = 4 then [n] else []) = l := ⟨_, rfl⟩
  have hP' := Lib.hid hP1
  have hN' := Lib.hid hN
  have hR' := Lib.hid hR
  have hL0' := Lib.hid hL0
  have hM' := Lib.hid hM
  have hba' := Lib.hid hba
  have hsz' := Lib.hid hsz
  clear hN hL3 hL7 hR hT hM hba hL0 hP1 hz1 hsz
  go_enter Tryz.func39, Tryz.ntmps39
  go_upto_block 0 with fail
  go_cut [9] from 9 to 16 (fun _ wx => Hid (Ls wx (w.heap.size + 1) 1 (fun x => P1.contains x)) ∧ Lies wx w.heap.size 28 [.int .i64 k, .int .i64 n, .string ⟨s.toArray⟩, .slice P3 L3 p3, .int .i64 d.k, .int .i64 d.n, .string ⟨d.s.toArray⟩, .slice I7 L7 q7, .slice A1 N c1] ∧ Below w.heap.size w wx)
  case first =>
    by_cases h4 : k = 4
    · have h4' := Lib.hid h4
      have e4 : (k == 4) = true := by simp [h4]
      clear h4
      go_wp2_with (
        go_at_call 44
        refine hA.out.mono ?_
        rintro e w3 ⟨rfl, hL3, hT3⟩
        have hM3 := hM'.out.turns hT3 (fun e => by omega)
        have hb4 := hba'.out.trans (hT3.below hba'.out.size (fun g hg => by omega))
        have hL3' := Lib.hid hL3
        clear hL3 hT3)
      go_meet
      case rel => exact ⟨Lib.hid (by
        have h := hL3'.out
        rw [lput_orl] at h
        rw [← hP'.out, if_pos (Or.inr h4'.out)]
        have e : orl (fun _ => false) [n] = fun x => [n].contains x := by funext x; simp [orl]
        rw [← e]
        exact h), hM3, hb4⟩
    have e4 : (k == 4) = false := by simp [h4]
    by_cases h2 : k = 2
    · have h2' := Lib.hid h2
      have e2 : (k == 2) = true := by simp [h2]
      clear h2 h4
      go_wp2_with (
        go_at_call 44
        refine hA.out.mono ?_
        rintro e w3 ⟨rfl, hL3, hT3⟩
        have hM3 := hM'.out.turns hT3 (fun e => by omega)
        have hb4 := hba'.out.trans (hT3.below hba'.out.size (fun g hg => by omega))
        have hL3' := Lib.hid hL3
        clear hL3 hT3)
      go_meet
      case rel => exact ⟨Lib.hid (by
        have h := hL3'.out
        rw [lput_orl] at h
        rw [← hP'.out, if_pos (Or.inl h2'.out)]
        have e : orl (fun _ => false) [n] = fun x => [n].contains x := by funext x; simp [orl]
        rw [← e]
        exact h), hM3, hb4⟩
    have e2 : (k == 2) = false := by simp [h2]
    have h4' := Lib.hid h4
    have h2' := Lib.hid h2
    clear h2 h4
    go_wp2_with fail
    go_meet
    case rel => exact ⟨Lib.hid (by
      rw [← hP'.out, if_neg (fun h => h.elim h2'.out h4'.out)]
      exact hL0'.out.mono (by omega)), hM'.out, hba'.out⟩
  case rest =>
  obtain ⟨hLc, hMc, hbc⟩ := hcut
  have y8 : wc.cell? ⟨w.heap.size, 8, none⟩ = some (.slice A1 N c1) := hMc.cell 8
  clear x0 x1 hA hL0' hM' hba' hW1 hmm
  have hMc' := Lib.hid hMc
  have hbc' := Lib.hid hbc
  clear hMc hbc
  go_wp2_with fail
  go_loopw [20] (fun i wr => ∃ (j : Nat), j ≤ N ∧ i = .int .i64 j ∧ Ls wr (w.heap.size + 1) (1 + TM.sz (ks.tk j)) (fun x => (P1 ++ frl (ks.tk j)).contains x) ∧ Lies wr w.heap.size 28 [.int .i64 k, .int .i64 n, .string ⟨s.toArray⟩, .slice P3 L3 p3, .int .i64 d.k, .int .i64 d.n, .string ⟨d.s.toArray⟩, .slice I7 L7 q7, .slice A1 N c1] ∧ Below w.heap.size w wr) (fun i _ => N - (RowKit.intOf i).toNat)
  case atStart => exact ⟨0, Nat.zero_le _, rfl, by rw [Tl.tk_zero]; simpa [TM.sz, frl] using hLc.out, hMc'.out, hbc'.out⟩
  case round =>
    obtain ⟨j, hj, rfl, hLr, hMr, hbr⟩ := hrel
    by_cases hlt : j < N
    · obtain ⟨x, hx⟩ := ks.at_some j (by rw [hN'.out]; exact hlt)
      obtain ⟨b, o, P5, p5, I5, q5, K5, r5, rfl, hb0, c10, c11, c12, c13, c14, c15, c16, c17, c18, hT5⟩ := (hTk.below hbr).at_ hx
      obtain ⟨W5, hW5⟩ : ∃ W5, wr.alloc (.cells #[.int .i64 x.k, .int .i64 x.n, .string ⟨x.s.toArray⟩, .slice P5 x.ps.length p5, .int .i64 x.d.k, .int .i64 x.d.n, .string ⟨x.d.s.toArray⟩, .slice I5 x.d.is.len q5, .slice K5 x.ks.len r5] 28) = W5 := ⟨_, rfl⟩
      have hk5 : Below wr.heap.size wr W5 := by rw [← hW5]; exact (Below.refl _ wr).alloc (Nat.le_refl _) _
      have hM5 : Lies W5 wr.heap.size 28 [.int .i64 x.k, .int .i64 x.n, .string ⟨x.s.toArray⟩, .slice P5 x.ps.length p5, .int .i64 x.d.k, .int .i64 x.d.n, .string ⟨x.d.s.toArray⟩, .slice I5 x.d.is.len q5, .slice K5 x.ks.len r5] := by
        rw [← hW5]; exact Lies.made _ _ _
      have z0 : W5.cell? ⟨wr.heap.size, 0, none⟩ = some (.int .i64 x.k) := hM5.cell 0
      have z1 : W5.cell? ⟨wr.heap.size, 1, none⟩ = some (.int .i64 x.n) := hM5.cell 1
      have z2 : W5.cell? ⟨wr.heap.size, 2, none⟩ = some (.string ⟨x.s.toArray⟩) := hM5.cell 2
      have z3 : W5.cell? ⟨wr.heap.size, 3, none⟩ = some (.slice P5 x.ps.length p5) := hM5.cell 3
      have z4 : W5.cell? ⟨wr.heap.size, 4, none⟩ = some (.int .i64 x.d.k) := hM5.cell 4
      have z5 : W5.cell? ⟨wr.heap.size, 5, none⟩ = some (.int .i64 x.d.n) := hM5.cell 5
      have z6 : W5.cell? ⟨wr.heap.size, 6, none⟩ = some (.string ⟨x.d.s.toArray⟩) := hM5.cell 6
      have z7 : W5.cell? ⟨wr.heap.size, 7, none⟩ = some (.slice I5 x.d.is.len q5) := hM5.cell 7
      have z8 : W5.cell? ⟨wr.heap.size, 8, none⟩ = some (.slice K5 x.ks.len r5) := hM5.cell 8
      have hsz2 := TM.sz_at hx
      have hst1 := TM.sz_tk ks j
      have hst2 := TM.sz_tk ks (j + 1)
      have hs5 := hsz'.out
      have htk := Tl.tk_snoc ks j x hx
      have hC := Lib.hid (hR'.out j x hx W5 _ _ _ (hT5.below hk5) (hBk.at_ hx) (by omega))
      have hK := Lib.hid (fun (w' : World) (q2 : Nat) (hb' : Below W5.heap.size W5 w') (hq2 : W5.heap.size ≤ q2) (h2 : Ls w' q2 (TM.sz x.ks + 1) (fun y => (fr1 x).contains y)) =>
        lcopy_any w' (w.heap.size + 1) q2 _ _ _ _ ((hLr.below hk5).below hb') h2 (by have := hLr.lt; have := hk5.size; omega) (by omega))
      have hlt9 : w.heap.size + 1 < wr.heap.size := hLr.lt
      have hM6 := Lib.hid (hMr.below hk5 hMr.lt)
      have hb6 := Lib.hid (hbr.trans (hk5.mono hbr.size))
      have htk' := Lib.hid htk
      have en : 1 + TM.sz (ks.tk (j + 1)) = 1 + TM.sz (ks.tk j) + (TM.sz x.ks + 1) := by omega
      have en' := Lib.hid en
      have hs6 := Lib.hid hk5.size
      unfold tmv at hC
      clear hsz2 hst1 hst2 hs5 htk en hM5 hk5 hbr hMr hLr hT5 hx y8
      go_wp2_with (first
        | (go_at_call 39
           refine hC.out.mono ?_
           rintro e w7 ⟨q2, rfl, hq2, hL7, hb7⟩
           have hK7 := Lib.hid (hK.out w7 q2 hb7 hq2 hL7)
           have hM7 := Lib.hid (hM6.out.below hb7 hM6.out.lt)
           have hb8 := Lib.hid (hb6.out.trans (Below.mono hb7 hb6.out.size))
           clear hL7 hb7)
        | (go_at_call 59
           refine hK7.out.mono ?_
           rintro e w8 ⟨rfl, hL8, hT8⟩
           have R8 := Lib.hid (And.intro hL8 (And.intro (hM7.out.turns hT8 (fun e => by omega)) (hb8.out.trans (hT8.below hb8.out.size (fun g hg => by omega)))))
           clear hL8 hT8))
      go_roundw
      case rel => exact ⟨j + 1, by omega, by go_num, by
        have h := R8.out.1
        rw [en'.out, htk'.out, frl_snoc, ← List.append_assoc]
        have e : (fun y => (P1 ++ frl (ks.tk j) ++ fr1 x).contains y) = fun y => (P1 ++ frl (ks.tk j)).contains y || (fr1 x).contains y := by
          funext y; simp [Bool.or_assoc]
        rw [e]
        exact h, R8.out.2.1, R8.out.2.2⟩
      case measure => simp [RowKit.intOf]; omega
    · obtain rfl : j = N := by omega
      have hall : ks.tk j = ks := by rw [← hN'.out]; exact Tl.tk_all ks
      rw [hall] at hLr
      have R8 := Lib.hid (And.intro hLr (And.intro hMr hbr))
      clear hLr hMr hbr y8 hall
      obtain ⟨hLd, hMd, hbd⟩ := R8.out
      have z0 := hMd.cell 0
      have z3 := hMd.cell 3
      simp only [List.getElem?_cons_succ, List.getElem?_cons_zero] at z0 z3
      have en : TM.sz ks + 1 = 1 + TM.sz ks := by omega
      have hRm := Lib.hid (lremove_any w wr (w.heap.size + 1) _ _ ps (.slice P3 L3 p3) hLd hTp hbd (by omega) hBp)
      have hLd' := Lib.hid hLd
      have hbd' := Lib.hid hbd
      by_cases h8 : k = 8
      · have e8 : (k == 8) = true := by simp [h8]
        have h8' := Lib.hid h8
        clear hLd hMd hbd h8 R8
        go_wp2_with (
          go_at_call 60
          refine hRm.out.mono ?_
          rintro e w8 ⟨rfl, hL8, hT8⟩
          have R9 := Lib.hid (And.intro hL8 (hbd'.out.trans (hT8.below hbd'.out.size (fun g hg => by omega))))
          clear hL8 hT8)
        go_ret
        refine ⟨_, rfl, by omega, ?_, R9.out.2⟩
        have h := R9.out.1
        rw [en]
        have e : (fun x => (fr1 ⟨k, n, s, ps, d, ks⟩).contains x) = fun x => (P1 ++ frl ks).contains x && !ps.contains x := by
          funext x
          unfold fr1
          simp only [h8'.out] at hP' ⊢
          rw [hP'.out]
          rw [Bool.eq_iff_iff]
          simp
          exact or_and_right.symm
        rw [e]
        exact h
      · have e8 : (k == 8) = false := by simp [h8]
        have h8' := Lib.hid h8
        clear hLd hMd hbd h8 R8
        go_wp2_with fail
        go_ret
        refine ⟨_, rfl, by omega, ?_, hbd'.out⟩
        have h := hLd'.out
        rw [en]
        have e : (fun x => (fr1 ⟨k, n, s, ps, d, ks⟩).contains x) = fun x => (P1 ++ frl ks).contains x := by
          funext x
          unfold fr1
          simp only
          rw [hP'.out]
          rw [Bool.eq_iff_iff]
          simp [h8'.out]
        rw [e]
        exact h
theorem free_in (t : Tm) : FrOk t := Tl.all_one _ fr_step t
set_option maxRecDepth 100000 in
set_option maxHeartbeats 4000000 in
theorem free_any (t : Tm) (w : World) (vp vi vk : Value) (hT : TmIn w t vp vi vk) (hB : TmBd t) (hk : t.k = 8) (hs : TM.sz t.ks + 1 ≤ 4000) (hh : TM.hi t.ks + 1 ≤ 200) :
    Calls Tryz.prog 18 #[tmv t vp vi vk] w fun e w' => ∃ (v : Value) (l : List Int), e = .returned v ∧ Own w' w.heap.size v l ∧ l.Pairwise (· < ·) ∧ (∀ x, x ∈ l ↔ x ∈ fr1 t) ∧ Went w w' := by
  have hP := Lib.hid (fun (w' : World) (hb : Below w.heap.size w w') => parts_any t vp vi vk w' (hT.below hb))
  have hI := Lib.hid (fun (w' : World) (hb : Below w.heap.size w w') => within_all t w' vp vi vk 200 (hT.below hb) (by omega))
  have hF := Lib.hid (fun (w' : World) (hb : Below w.heap.size w w') => free_in t w' vp vi vk (hT.below hb) hB (by omega))
  have hR := Lib.hid (fun (w' : World) (q n : Nat) (F : Int → Bool) (h : Ls w' q n F) (hn : n ≤ 1000000) => rising_any w' q n F h hn)
  obtain ⟨P3, p3, rfl⟩ := hT.p.read
  obtain ⟨I7, q7, rfl⟩ := hT.d.read
  obtain ⟨A1, c1, rfl⟩ := hT.k.read
  obtain ⟨pn, hpn⟩ : ∃ x : Nat, min (TM.sz t.ks + 1) 5000 = x := ⟨_, rfl⟩
  have hpn4 : pn ≤ 4000 := by omega
  rw [hpn] at hP
  have hiw : decide (TM.hi t.ks + 1 ≤ 200) = true := by rw [decide_eq_true_eq]; exact hh
  rw [hiw] at hI
  obtain ⟨F0, hF0⟩ : ∃ F0 : Int → Bool, (fun x => (fr1 t).contains x) = F0 := ⟨_, rfl⟩
  rw [hF0] at hF
  have hsn := Lib.hid (show TM.sz t.ks + 1 ≤ 1000000 by omega)
  have hF0' := Lib.hid hF0
  unfold tmv at hP hI hF ⊢
  rw [hk] at hP hI hF ⊢
  have hba : Below w.heap.size w (w.alloc (.cells #[.int .i64 8, .int .i64 t.n, .string ⟨t.s.toArray⟩, .slice P3 t.ps.length p3, .int .i64 t.d.k, .int .i64 t.d.n, .string ⟨t.d.s.toArray⟩, .slice I7 t.d.is.len q7, .slice A1 t.ks.len c1] 28)) := (Below.refl _ w).alloc (Nat.le_refl _) _
  have hM := Lies.made w 28 #[.int .i64 8, .int .i64 t.n, .string ⟨t.s.toArray⟩, .slice P3 t.ps.length p3, .int .i64 t.d.k, .int .i64 t.d.n, .string ⟨t.d.s.toArray⟩, .slice I7 t.d.is.len q7, .slice A1 t.ks.len c1]
  obtain ⟨W1, hW1⟩ : ∃ W1, w.alloc (.cells #[.int .i64 8, .int .i64 t.n, .string ⟨t.s.toArray⟩, .slice P3 t.ps.length p3, .int .i64 t.d.k, .int .i64 t.d.n, .string ⟨t.d.s.toArray⟩, .slice I7 t.d.is.len q7, .slice A1 t.ks.len c1] 28) = W1 := ⟨_, rfl⟩
  rw [hW1] at hba hM
  have y0 := hM.cell 0
  have y1 := hM.cell 1
  have y2 := hM.cell 2
  have y3 := hM.cell 3
  have y4 := hM.cell 4
  have y5 := hM.cell 5
  have y6 := hM.cell 6
  have y7 := hM.cell 7
  have y8 := hM.cell 8
  simp only [List.getElem?_cons_succ, List.getElem?_cons_zero] at y0 y1 y2 y3 y4 y5 y6 y7 y8
  have hM' := Lib.hid hM
  have hba' := Lib.hid hba
  clear hT hB hk hs hh hpn hiw hF0 hM hba
  have ep : decide ((4000 : Int) < (pn : Int)) = false := by rw [decide_eq_false_iff_not]; omega
  have e200 : ((200 : Nat) : Int) = 200 := rfl
  rw [e200] at hI
  go_enter Tryz.func18, Tryz.ntmps18
  go_wp2_with (first
    | (go_at_call 37
       refine (hP.out _ hba'.out).mono ?_
       rintro e w2 ⟨rfl, hb2⟩
       have hb3 := Lib.hid (hba'.out.trans (Below.mono hb2 hba'.out.size))
       have hM2 := hM'.out.below hb2 hM'.out.lt
       have hM2' := Lib.hid hM2
       have z0 := hM2.cell 0
       have z1 := hM2.cell 1
       have z2 := hM2.cell 2
       have z3 := hM2.cell 3
       have z4 := hM2.cell 4
       have z5 := hM2.cell 5
       have z6 := hM2.cell 6
       have z7 := hM2.cell 7
       have z8 := hM2.cell 8
       simp only [List.getElem?_cons_succ, List.getElem?_cons_zero] at z0 z1 z2 z3 z4 z5 z6 z7 z8
       clear hb2)
    | (go_at_call 38
       refine (hI.out _ hb3.out).mono ?_
       rintro e w4 ⟨rfl, hb4⟩
       have hb5 := Lib.hid (hb3.out.trans (Below.mono hb4 hb3.out.size))
       have hM4 := hM2'.out.below hb4 hM2'.out.lt
       have v0 := hM4.cell 0
       have v1 := hM4.cell 1
       have v2 := hM4.cell 2
       have v3 := hM4.cell 3
       have v4 := hM4.cell 4
       have v5 := hM4.cell 5
       have v6 := hM4.cell 6
       have v7 := hM4.cell 7
       have v8 := hM4.cell 8
       simp only [List.getElem?_cons_succ, List.getElem?_cons_zero] at v0 v1 v2 v3 v4 v5 v6 v7 v8
       clear hb4 hM4)
    | (go_at_call 39
       refine (hF.out _ hb5.out).mono ?_
       rintro e w6 ⟨q6, rfl, hq6, hL6, hb6⟩
       have hb7 := Lib.hid (hb5.out.trans (Below.mono hb6 hb5.out.size))
       have hL6' := Lib.hid hL6
       have hs5 := Lib.hid hb5.out.size
       clear hb6 hL6)
    | (go_at_call 25
       refine (hR.out _ _ _ _ hL6'.out hsn.out).mono ?_
       rintro e w8 ⟨v8, l8, rfl, hO8, hp8, hm8, hb8⟩
       have R8 := Lib.hid (And.intro hO8 (And.intro hp8 (And.intro hm8 (hb7.out.trans (hb8.mono hb7.out.size)))))
       clear hO8 hp8 hm8 hb8))
  go_ret
  exact ⟨_, l8, rfl, R8.out.1.base hb7.out.size, R8.out.2.1, fun x => by rw [R8.out.2.2.1 x, ← hF0'.out]; simp, R8.out.2.2.2⟩
end Go.Proofs.YtpiekdcbjkgipaaGreat
