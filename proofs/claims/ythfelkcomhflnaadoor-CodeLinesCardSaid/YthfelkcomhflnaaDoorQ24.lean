/- What package read finds right: all of a datum, its parts; Check. -/
import Derived.Test.YthfelkcomhflnaaDoorQ23
namespace Go.Proofs.YthfelkcomhflnaaDoor
open Go.ChangeShapes Go.WideShapes Go.ChangeAt Go.RowKit

/-! ### all of a datum -/
def RightOk (x : RM.Dm) : Prop := ∀ (w : World) (v : Value) (D : Int), In w v x.is → 1 ≤ D → D ≤ 65 → Calls Tryd.prog 56 #[dtv x v, .int .i64 D] w fun e w' => e = .returned (.bool (decide (D ≤ 64) && SM.ro D x)) ∧ Went w w'
set_option maxRecDepth 100000 in
set_option maxHeartbeats 4000000 in
theorem right_step (k n : Int) (s : List UInt8) (is : RM.Dl) (hP : ∀ i x, is.at_ i = some x → RightOk x) : RightOk ⟨k, n, s, is⟩ := by
  intro w v D h1 hD0 hD1
  obtain ⟨A1, c1, rfl⟩ := h1.read
  have hlen := h1.len
  have hK := Lib.hid (fun (w' : World) (hb : Below w.heap.size w w') => isKind_dat w' k n ⟨s.toArray⟩ A1 c1 is (h1.below hb))
  have hro : SM.ro D ⟨k, n, s, is⟩ = (SM.kd k n s is && SM.rt D is) := rfl
  rw [hro]
  simp only at h1 hlen ⊢
  unfold dtv
  simp only
  obtain ⟨N, hN⟩ : ∃ N, is.len = N := ⟨_, rfl⟩
  obtain ⟨m, hm⟩ : ∃ m, SM.kd k n s is = m := ⟨_, rfl⟩
  obtain ⟨R, hR⟩ : ∃ R, SM.rt D is = R := ⟨_, rfl⟩
  rw [hN] at h1 hlen hK ⊢
  rw [show (ByteArray.mk s.toArray).data.toList = s from rfl, hm] at hK
  rw [hm, hR]
  have hN' := Lib.hid hN
  have hR' := Lib.hid hR
  have hP' := Lib.hid hP
  have hL := Lies.made w 42 #[.int .i64 k, .int .i64 n, .string ⟨s.toArray⟩, .slice A1 N c1]
  have hb0 : Below w.heap.size w (w.alloc (.cells #[.int .i64 k, .int .i64 n, .string ⟨s.toArray⟩, .slice A1 N c1] 42)) := went_box _ _ _
  clear hN hP hR hm hro
  by_cases hD : D ≤ 64
  · rw [decide_eq_true hD, Bool.true_and]
    cases m
    · rw [Bool.false_and]
      go_enter Tryd.func56, Tryd.ntmps56
      go_wp2_with (go_at_call 64; refine (hK.out _ hb0).mono ?_; rintro e w' ⟨rfl, hb⟩)
      go_ret
      exact ⟨rfl, hb0.trans (hb.mono (by simp))⟩
    · rw [Bool.true_and]
      go_enter Tryd.func56, Tryd.ntmps56
      go_wp2_with (go_at_call 64; refine (hK.out _ hb0).mono ?_; rintro e w1 ⟨rfl, hb⟩; have hM := hL.below hb hL.lt; have hb1 : Below w.heap.size w w1 := hb0.trans (hb.mono (by simp)); have y3 := hM.cell 3; simp only [List.getElem?_cons_succ, List.getElem?_cons_zero] at y3; clear hL hb0 hK hb)
      go_loopw [17] (fun i wr => ∃ (j : Nat), j ≤ N ∧ i = .int .i64 j ∧ Hid (SM.rt D (SM.dr is j) = R) ∧ Below w.heap.size w wr ∧ Lies wr w.heap.size 42 [.int .i64 k, .int .i64 n, .string ⟨s.toArray⟩, .slice A1 N c1]) (fun i _ => N - (intOf i).toNat)
      case atStart => exact ⟨0, by omega, rfl, Lib.hid (by rw [SM.dr_zero]; exact hR'.out), hb1, hM⟩
      case round =>
        obtain ⟨j, hj, rfl, hRj, hb, hM1⟩ := hrel
        clear hM y3 hb1
        by_cases hlt : j < N
        · obtain ⟨x, hx⟩ := is.at_some j (by rw [hN'.out]; exact hlt)
          obtain ⟨b, o, B, q, rfl, hb0, p0, p1, p2, p3, hd1⟩ := (h1.below hb).at_ hx
          have y3 : wr.cell? ⟨w.heap.size, 3, none⟩ = some (.slice (some ⟨b, o, none⟩) N c1) := hM1.cell 3
          have hx' := Lib.hid (hP'.out j x hx)
          have hR0 := hRj.out
          rw [SM.rt_at hx] at hR0
          obtain ⟨G, hG⟩ : ∃ G, SM.ro (D + 1) x = G := ⟨_, rfl⟩
          have hdd : SM.ro (D + 1) x = true → D + 1 ≤ 64 := fun h => by
            have := h
            unfold SM.ro SM.rt at this
            simp only [Bool.and_eq_true, decide_eq_true_eq] at this
            omega
          rw [hG] at hR0 hdd
          have hC := Lib.hid (fun (w' : World) (hb' : Below wr.heap.size wr w') => hx'.out w' (.slice B x.is.len q) (D + 1) (hd1.below hb') (by omega) (by omega))
          rw [hG] at hC
          have hR0' := Lib.hid hR0
          clear hx hG hR0 hx' hRj
          cases G
          · have hff : (decide (D + 1 ≤ 64) && false) = false := by simp
            rw [hff] at hC
            unfold dtv at hC
            go_wp2_with (go_at_call 56; refine (hC.out _ (went_box _ _ _)).mono ?_; rintro e w5 ⟨rfl, hb5⟩)
            go_ret
            have hR0 := hR0'.out
            rw [Bool.false_and] at hR0
            exact ⟨ret_b hR0, hb.trans (Below.mono (went_box _ _ _) hb.size |>.trans (hb5.mono (by simp; have := hb.size; omega)))⟩
          · have hff : (decide (D + 1 ≤ 64) && true) = true := by simp; exact hdd rfl
            rw [hff] at hC
            unfold dtv at hC
            go_wp2_with (go_at_call 56; refine (hC.out _ (went_box _ _ _)).mono ?_; rintro e w5 ⟨rfl, hb5⟩; have hb6 : Below w.heap.size w w5 := hb.trans (Below.mono (went_box _ _ _) hb.size |>.trans (hb5.mono (by simp; have := hb.size; omega))); have hM3 := (hM1.alloc _).below hb5 (hM1.alloc _).lt; clear hb5 p0 p1 p2 p3 y3)
            go_roundw
            case rel =>
              have hR0 := hR0'.out
              rw [Bool.true_and] at hR0
              exact ⟨j + 1, by omega, by go_num, Lib.hid hR0, hb6, hM3⟩
            case measure => simp [intOf]; omega
        · obtain rfl : j = N := by omega
          have hR0 := hRj.out
          rw [SM.dr_end is j (by rw [hN'.out]; exact Nat.le_refl _), SM.rt_end, decide_eq_true hD] at hR0
          subst hR0
          go_wp2_with fail
          go_ret
          exact ⟨rfl, hb⟩
  · rw [decide_eq_false hD, Bool.false_and]
    go_enter Tryd.func56, Tryd.ntmps56
    go_wp2_with fail
    go_ret
    exact ⟨rfl, hb0⟩
theorem right_any (x : RM.Dm) : RightOk x := RM.Dl.all_of RightOk right_step (.one x) 0 x (by cases x; rfl)

/-! ### how many parts -/
def CntOk (x : RM.Dm) : Prop := ∀ (w : World) (v : Value) (n : Int), In w v x.is → 0 ≤ n → n < 5000 → Calls Tryd.prog 63 #[.int .i64 n, dtv x v] w (SzN (n + SM.sz x.is + 1) w)
set_option maxRecDepth 100000 in
set_option maxHeartbeats 4000000 in
theorem cnt_step (k n : Int) (s : List UInt8) (is : RM.Dl) (hP : ∀ i x, is.at_ i = some x → CntOk x) : CntOk ⟨k, n, s, is⟩ := by
  intro w v n0 h1 hn0 hn1
  obtain ⟨A1, c1, rfl⟩ := h1.read
  have hlen := h1.len
  simp only at h1 hlen ⊢
  unfold dtv
  simp only
  obtain ⟨N, hN⟩ : ∃ N, is.len = N := ⟨_, rfl⟩
  obtain ⟨Z, hZ⟩ : ∃ Z, SM.sz is = Z := ⟨_, rfl⟩
  rw [hN] at h1 hlen ⊢
  rw [hZ]
  have hN' := Lib.hid hN
  have hZ' := Lib.hid hZ
  have hP' := Lib.hid hP
  have hL := Lies.made w 42 #[.int .i64 k, .int .i64 n, .string ⟨s.toArray⟩, .slice A1 N c1]
  have hb0 : Below w.heap.size w (w.alloc (.cells #[.int .i64 k, .int .i64 n, .string ⟨s.toArray⟩, .slice A1 N c1] 42)) := went_box _ _ _
  clear hN hP hZ
  go_enter Tryd.func63, Tryd.ntmps63
  go_wp2_with fail
  go_loopw [0, 12] (fun y i wr => ∃ (j R : Nat) (m : Int), j ≤ N ∧ i = .int .i64 j ∧ Hid (SM.sz (SM.dr is j) = R) ∧ min (m + (R : Int)) 5000 = min (n0 + (Z : Int) + 1) 5000 ∧ 0 ≤ m ∧ m ≤ 5000 ∧ y = .int .i64 m ∧ Below w.heap.size w wr) (fun _ i _ => N - (intOf i).toNat)
  case atStart => exact ⟨0, Z, n0 + 1, by omega, rfl, Lib.hid (by rw [SM.dr_zero]; exact hZ'.out), by omega, by omega, by omega, rfl, hb0⟩
  case round =>
    obtain ⟨j, R, m, hj, rfl, hR, hm, hm0, hm1, rfl, hb⟩ := hrel
    clear hL hb0
    by_cases hlt : j < N
    · obtain ⟨x, hx⟩ := is.at_some j (by rw [hN'.out]; exact hlt)
      obtain ⟨b, o, B, q, rfl, hb0, p0, p1, p2, p3, hd1⟩ := (h1.below hb).at_ hx
      by_cases hmm : m < 5000
      · have hx' := Lib.hid (hP'.out j x hx)
        have hR0 := hR.out
        rw [SM.sz_at hx] at hR0
        obtain ⟨R1, hR1⟩ : ∃ R1, SM.sz (SM.dr is (j + 1)) = R1 := ⟨_, rfl⟩
        obtain ⟨X, hX⟩ : ∃ X, SM.sz x.is = X := ⟨_, rfl⟩
        rw [hR1, hX] at hR0
        have hR1' := Lib.hid hR1
        have hC := Lib.hid (fun (w' : World) (hb' : Below wr.heap.size wr w') => hx'.out w' (.slice B x.is.len q) m (hd1.below hb') (by omega) (by omega))
        rw [hX] at hC
        unfold dtv at hC
        clear hx hR1 hX hx'
        go_wp2_with (
          go_at_call 63
          refine (hC.out _ (went_box _ _ _)).mono ?_
          rintro e w5 ⟨y5, h50, rfl, hb5⟩
          have h50' := Lib.hid h50
          have hb6 : Below w.heap.size w w5 := hb.trans (Below.mono (went_box _ _ _) hb.size |>.trans (hb5.mono (by simp; have := hb.size; omega)))
          clear h50 p0 p1 p2 p3 hb5)
        have h50 := h50'.out
        go_roundw
        case rel => exact ⟨j + 1, R1, y5, by omega, by go_num, hR1', by omega, by omega, by omega, rfl, hb6⟩
        case measure => simp [intOf]; omega
      · have h5 : m = 5000 := by omega
        subst h5
        clear hx
        go_wp2_with fail
        go_ret
        exact ⟨5000, by omega, rfl, hb.trans (Below.mono (went_box _ _ _) hb.size)⟩
    · obtain rfl : j = N := by omega
      have hR0 := hR.out
      rw [SM.dr_end is j (by rw [hN'.out]; exact Nat.le_refl _)] at hR0
      have hR1 : R = 0 := hR0.symm
      go_wp2_with fail
      go_ret
      exact ⟨m, by omega, rfl, hb⟩
theorem cnt_any (x : RM.Dm) : CntOk x := RM.Dl.all_of CntOk cnt_step (.one x) 0 x (by cases x; rfl)

/-! ### Check -/
def chv (b : Bool) : Value := if b then .nilIface else .iface 34 (.int .i64 7)
set_option maxRecDepth 100000 in
theorem check_any (x : RM.Dm) (w : World) (v : Value) (h : In w v x.is) : Calls Tryd.prog 47 #[dtv x v] w fun e w' => e = .returned (chv (SM.okd x)) ∧ Went w w' := by
  obtain ⟨A, c, rfl⟩ := h.read
  have hlen := h.len
  obtain ⟨Z, hZ⟩ : ∃ Z, SM.sz x.is = Z := ⟨_, rfl⟩
  obtain ⟨G, hG⟩ : ∃ G, SM.ro 1 x = G := ⟨_, rfl⟩
  have hok : SM.okd x = (decide (Z + 1 ≤ 4000) && G) := by
    rw [← hZ, ← hG]
    unfold SM.okd SM.ro SM.rt
    rw [show decide ((SM.hi x.is : Int) + 1 ≤ 64) = decide (SM.hi x.is + 1 ≤ 64) by congr 1; simp only [eq_iff_iff]; omega]
    cases SM.kd x.k x.n x.s x.is <;> cases SM.rgt x.is <;> simp
  rw [hok]
  have hC := Lib.hid (fun (w' : World) (hb : Below w.heap.size w w') => cnt_any x w' (.slice A x.is.len c) 0 (h.below hb) (by omega) (by omega))
  have hR := Lib.hid (fun (w' : World) (hb : Below w.heap.size w w') => right_any x w' (.slice A x.is.len c) 1 (h.below hb) (by omega) (by omega))
  rw [hZ] at hC
  rw [hG] at hR
  rw [show (decide ((1 : Int) ≤ 64) && G) = G by simp] at hR
  clear hZ hG hok h
  unfold dtv at hC hR ⊢
  obtain ⟨N, hN⟩ : ∃ N, x.is.len = N := ⟨_, rfl⟩
  rw [hN] at hC hR hlen ⊢
  clear hN
  have hL := Lies.made w 42 #[.int .i64 x.k, .int .i64 x.n, .string ⟨x.s.toArray⟩, .slice A N c]
  have hb0 : Below w.heap.size w (w.alloc (.cells #[.int .i64 x.k, .int .i64 x.n, .string ⟨x.s.toArray⟩, .slice A N c] 42)) := went_box _ _ _
  have hP : Hid (∀ (w' : World), Below w.heap.size w w' → Calls Tryd.prog 55 #[.agg #[.int .i64 x.k, .int .i64 x.n, .string ⟨x.s.toArray⟩, .slice A N c]] w' (SzN (0 + (Z : Int) + 1) w')) := Lib.hid (by
    intro w' hb
    have hb1 : Below w'.heap.size w' (w'.alloc (.cells #[.int .i64 x.k, .int .i64 x.n, .string ⟨x.s.toArray⟩, .slice A N c] 42)) := went_box _ _ _
    clear hL hb0 hR
    go_enter Tryd.func55, Tryd.ntmps55
    go_wp2_with (
      go_at_call 63
      refine (hC.out _ (hb.trans (Below.mono hb1 hb.size))).mono ?_
      rintro e w5 ⟨y5, h50, rfl, hb5⟩
      have h50' := Lib.hid h50
      clear h50)
    go_ret
    exact ⟨y5, h50'.out, rfl, hb1.trans (hb5.mono (by simp))⟩)
  clear hC
  by_cases hz : Z + 1 ≤ 4000
  · rw [decide_eq_true hz, Bool.true_and]
    cases G
    all_goals
      go_enter Tryd.func47, Tryd.ntmps47
      go_wp2_with (first
        | (go_at_call 55
           refine (hP.out _ hb0).mono ?_
           rintro e w5 ⟨y5, h50, rfl, hb5⟩
           have hy : y5 ≤ 4000 := by omega
           clear h50
           have hM := hL.below hb5 hL.lt
           have hb6 : Below w.heap.size w w5 := hb0.trans (hb5.mono (by simp))
           have y0 := hM.cell 0
           have y1 := hM.cell 1
           have y2 := hM.cell 2
           have y3 := hM.cell 3
           simp only [List.getElem?_cons_succ, List.getElem?_cons_zero] at y0 y1 y2 y3
           clear hL hb0 hb5 hM)
        | (go_at_call 56
           refine (hR.out _ hb6).mono ?_
           rintro e w7 ⟨rfl, hb7⟩
           have hb8 : Below w.heap.size w w7 := hb6.trans (hb7.mono hb6.size)
           clear hb7))
      go_ret
      exact ⟨rfl, hb8⟩
  · rw [decide_eq_false hz, Bool.false_and]
    go_enter Tryd.func47, Tryd.ntmps47
    go_wp2_with (
      go_at_call 55
      refine (hP.out _ hb0).mono ?_
      rintro e w5 ⟨y5, h50, rfl, hb5⟩
      have hy : 4000 < y5 := by omega
      clear h50)
    go_ret
    exact ⟨rfl, hb0.trans (hb5.mono (by simp))⟩
end Go.Proofs.YthfelkcomhflnaaDoor
