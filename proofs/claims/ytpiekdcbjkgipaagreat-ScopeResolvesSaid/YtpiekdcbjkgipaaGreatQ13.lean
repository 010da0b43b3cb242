/- What package read finds right: all of a datum, its parts; Check. -/
import Derived.Test.YtpiekdcbjkgipaaGreatQ12
import Derived.Test.YtpiekdcbjkgipaaGreatQ4
import Derived.Test.YtpiekdcbjkgipaaGreatQ6
namespace Go.Proofs.YtpiekdcbjkgipaaGreat
open Go.ChangeShapes Go.WideShapes Go.ChangeAt Go.RowKit

/-! ### all of a datum -/
def RightOk (x : RM.Dm) : Prop := ∀ (w : World) (v : Value) (D : Int), In w v x.is → 1 ≤ D → D ≤ 65 → Calls Tryz.prog 106 #[dtv x v, .int .i64 D] w fun e w' => e = .returned (.bool (decide (D ≤ 64) && SM.ro D x)) ∧ Went w w'
set_option maxRecDepth 100000 in
set_option maxHeartbeats 4000000 in
theorem right_step (k n : Int) (s : List UInt8) (is : RM.Dl) (hP : ∀ i x, is.at_ i = some x → RightOk x) : RightOk ⟨k, n, s, is⟩ := by
  intro w v D h1 hD0 hD1
  obtain ⟨A1, c1, rfl⟩ := h1.read
  have hlen := h1.len
  have hK := Lib.hid (fun (w' : World) (hb : Below w.heap.size w w') => isKind_dat w' k n ⟨s.toArray⟩ A1 c1 is (h1.below hb))
  have hro : SM.ro D ⟨k, n, s, is⟩ = (SM.kd k n s is && SM.rt D is) := rfl
  rw [hro]
  simp only at h1 hlen ⊢
  unfold dtv
  simp only
  obtain ⟨N, hN⟩ : ∃ N, is.len = N := ⟨_, rfl⟩
  obtain ⟨m, hm⟩ : ∃ m, SM.kd k n s is = m := ⟨_, rfl⟩
  obtain ⟨R, hR⟩ : ∃ R, SM.rt D is = R := ⟨_, rfl⟩
  rw [hN] at h1 hlen hK ⊢
  rw [show (ByteArray.mk s.toArray).data.toList = s from rfl, hm] at hK
  rw [hm, hR]
  have hN' := Lib.hid hN
  have hR' := Lib.hid hR
  have hP' := Lib.hid hP
  have hL := Lies.made w 25 #[.int .i64 k, .int .i64 n, .string ⟨s.toArray⟩, .slice A1 N c1]
  have hb0 : Below w.heap.size w (w.alloc (.cells #[.int .i64 k, .int .i64 n, .string ⟨s.toArray⟩, .slice A1 N c1] 25)) := went_box _ _ _
  clear hN hP hR hm hro
  by_cases hD : D ≤ 64
  · rw [decide_eq_true hD, Bool.true_and]
    cases m
    · rw [Bool.false_and]
      go_enter Tryz.func106, Tryz.ntmps106
      go_wp2_with (go_at_call 113; refine (hK.out _ hb0).mono ?_; rintro e w' ⟨rfl, hb⟩)
      go_ret
      exact ⟨rfl, hb0.trans (hb.mono (by simp))⟩
    · rw [Bool.true_and]
      go_enter Tryz.func106, Tryz.ntmps106
      go_wp2_with (go_at_call 113; refine (hK.out _ hb0).mono ?_; rintro e w1 ⟨rfl, hb⟩; have hM := hL.below hb hL.lt; have hb1 : Below w.heap.size w w1 := hb0.trans (hb.mono (by simp)); have y3 := hM.cell 3; simp only [List.getElem?_cons_succ, List.getElem?_cons_zero] at y3; clear hL hb0 hK hb)
      go_loopw [17] (fun i wr => ∃ (j : Nat), j ≤ N ∧ i = .int .i64 j ∧ Hid (SM.rt D (SM.dr is j) = R) ∧ Below w.heap.size w wr ∧ Lies wr w.heap.size 25 [.int .i64 k, .int .i64 n, .string ⟨s.toArray⟩, .slice A1 N c1]) (fun i _ => N - (intOf i).toNat)
      case atStart => exact ⟨0, by omega, rfl, Lib.hid (by rw [SM.dr_zero]; exact hR'.out), hb1, hM⟩
      case round =>
        obtain ⟨j, hj, rfl, hRj, hb, hM1⟩ := hrel
        clear hM y3 hb1
        by_cases hlt : j < N
        · obtain ⟨x, hx⟩ := is.at_some j (by rw [hN'.out]; exact hlt)
          obtain ⟨b, o, B, q, rfl, hb0, p0, p1, p2, p3, hd1⟩ := (h1.below hb).at_ hx
          have y3 : wr.cell? ⟨w.heap.size, 3, none⟩ = some (.slice (some ⟨b, o, none⟩) N c1) := hM1.cell 3
          have hx' := Lib.hid (hP'.out j x hx)
          have hR0 := hRj.out
          rw [SM.rt_at hx] at hR0
          obtain ⟨G, hG⟩ : ∃ G, SM.ro (D + 1) x = G := ⟨_, rfl⟩
          have hdd : SM.ro (D + 1) x = true → D + 1 ≤ 64 := fun h => by
            have := h
            unfold SM.ro SM.rt at this
            simp only [Bool.and_eq_true, decide_eq_true_eq] at this
            omega
          rw [hG] at hR0 hdd
          have hC := Lib.hid (fun (w' : World) (hb' : Below wr.heap.size wr w') => hx'.out w' (.slice B x.is.len q) (D + 1) (hd1.below hb') (by omega) (by omega))
          rw [hG] at hC
          have hR0' := Lib.hid hR0
          clear hx hG hR0 hx' hRj
          cases G
          · have hff : (decide (D + 1 ≤ 64) && false) = false := by simp
            rw [hff] at hC
            unfold dtv at hC
            go_wp2_with (go_at_call 106; refine (hC.out _ (went_box _ _ _)).mono ?_; rintro e w5 ⟨rfl, hb5⟩)
            go_ret
            have hR0 := hR0'.out
            rw [Bool.false_and] at hR0
            exact ⟨ret_b hR0, hb.trans (Below.mono (went_box _ _ _) hb.size |>.trans (hb5.mono (by simp; have := hb.size; omega)))⟩
          · have hff : (decide (D + 1 ≤ 64) && true) = true := by simp; exact hdd rfl
            rw [hff] at hC
            unfold dtv at hC
            go_wp2_with (go_at_call 106; refine (hC.out _ (went_box _ _ _)).mono ?_; rintro e w5 ⟨rfl, hb5⟩; have hb6 : Below w.heap.size w w5 := hb.trans (Below.mono (went_box _ _ _) hb.size |>.trans (hb5.mono (by simp; have := hb.size; omega))); have hM3 := (hM1.alloc _).below hb5 (hM1.alloc _).lt; clear hb5 p0 p1 p2 p3 y3)
            go_roundw
            case rel =>
              have hR0 := hR0'.out
              rw [Bool.true_and] at hR0
              exact ⟨j + 1, by omega, by go_num, Lib.hid hR0, hb6, hM3⟩
            case measure => simp [intOf]; omega
        · obtain rfl : j = N := by omega
          have hR0 := hRj.out
          rw [SM.dr_end is j (by rw [hN'.out]; exact Nat.le_refl _), SM.rt_end, decide_eq_true hD] at hR0
          subst hR0
          go_wp2_with fail
          go_ret
          exact ⟨rfl, hb⟩
  · rw [decide_eq_false hD, Bool.false_and]
    go_enter Tryz.func106, Tryz.ntmps106
    go_wp2_with fail
    go_ret
    exact ⟨rfl, hb0⟩
theorem right_any (x : RM.Dm) : RightOk x := RM.Dl.all_of RightOk right_step (.one x) 0 x (by cases x; rfl)

/-! ### how many parts -/
def CntOk (x : RM.Dm) : Prop := ∀ (w : World) (v : Value) (n : Int), In w v x.is → 0 ≤ n → n < 5000 → Calls Tryz.prog 112 #[.int .i64 n, dtv x v] w (SzN (n + SM.sz x.is + 1) w)
set_option maxRecDepth 100000 in
set_option maxHeartbeats 4000000 in
theorem cnt_step (k n : Int) (s : List UInt8) (is : RM.Dl) (hP : ∀ i x, is.at_ i = some x → CntOk x) : CntOk ⟨k, n, s, is⟩ := by
  intro w v n0 h1 hn0 hn1
  obtain ⟨A1, c1, rfl⟩ := h1.read
  have hlen := h1.len
  simp only at h1 hlen ⊢
  unfold dtv
  simp only
  obtain ⟨N, hN⟩ : ∃ N, is.len = N := ⟨_, rfl⟩
  obtain ⟨Z, hZ⟩ : ∃ Z, SM.sz is = Z := ⟨_, rfl⟩
  rw [hN] at h1 hlen ⊢
  rw [hZ]
  have hN' := Lib.hid hN
  have hZ' := Lib.hid hZ
  have hP' := Lib.hid hP
  have hL := Lies.made w 25 #[.int .i64 k, .int .i64 n, .string ⟨s.toArray⟩, .slice A1 N c1]
  have hb0 : Below w.heap.size w (w.alloc (.cells #[.int .i64 k, .int .i64 n, .string ⟨s.toArray⟩, .slice A1 N c1] 25)) := went_box _ _ _
  clear hN hP hZ
  go_enter Tryz.func112, Tryz.ntmps112
  go_wp2_with fail
  go_loopw [0, 12] (fun y i wr => ∃ (j R : Nat) (m : Int), j ≤ N ∧ i = .int .i64 j ∧ Hid (SM.sz (SM.dr is j) = R) ∧ min (m + (R : Int)) 5000 = min (n0 + (Z : Int) + 1) 5000 ∧ 0 ≤ m ∧ m ≤ 5000 ∧ y = .int .i64 m ∧ Below w.heap.size w wr) (fun _ i _ => N - (intOf i).toNat)
  case atStart => exact ⟨0, Z, n0 + 1, by omega, rfl, Lib.hid (by rw [SM.dr_zero]; exact hZ'.out), by omega, by omega, by omega, rfl, hb0⟩
  case round =>
    obtain ⟨j, R, m, hj, rfl, hR, hm, hm0, hm1, rfl, hb⟩ := hrel
    clear hL hb0
    by_cases hlt : j < N
    · obtain ⟨x, hx⟩ := is.at_some j (by rw [hN'.out]; exact hlt)
      obtain ⟨b, o, B, q, rfl, hb0, p0, p1, p2, p3, hd1⟩ := (h1.below hb).at_ hx
      by_cases hmm : m < 5000
      · have hx' := Lib.hid (hP'.out j x hx)
        have hR0 := hR.out
        rw [SM.sz_at hx] at hR0
        obtain ⟨R1, hR1⟩ : ∃ R1, SM.sz (SM.dr is (j + 1)) = R1 := ⟨_, rfl⟩
        obtain ⟨X, hX⟩ : ∃ X, SM.sz x.is = X := ⟨_, rfl⟩
        rw [hR1, hX] at hR0
        have hR1' := Lib.hid hR1
        have hC := Lib.hid (fun (w' : World) (hb' : Below wr.heap.size wr w') => hx'.out w' (.slice B x.is.len q) m (hd1.below hb') (by omega) (by omega))
        rw [hX] at hC
        unfold dtv at hC
        clear hx hR1 hX hx'
        go_wp2_with (
          go_at_call 112
          refine (hC.out _ (went_box _ _ _)).mono ?_
          rintro e w5 ⟨y5, h50, rfl, hb5⟩
          have h50' := Lib.hid h50
          have hb6 : Below w.heap.size w w5 := hb.trans (Below.mono (went_box _ _ _) hb.size |>.trans (hb5.mono (by simp; have := hb.size; omega)))
          clear h50 p0 p1 p2 p3 hb5)
        have h50 := h50'.out
        go_roundw
        case rel => exact ⟨j + 1, R1, y5, by omega, by go_num, hR1', by omega, by omega, by omega, rfl, hb6⟩
        case measure => simp [intOf]; omega
      · have h5 : m = 5000 := by omega
        subst h5
        clear hx
        go_wp2_with fail
        go_ret
        exact ⟨5000, by omega, rfl, hb.trans (Below.mono (went_box _ _ _) hb.size)⟩
    · obtain rfl : j = N := by omega
      have hR0 := hR.out
      rw [SM.dr_end is j (by rw [hN'.out]; exact Nat.le_refl _)] at hR0
      have hR1 : R = 0 := hR0.symm
      go_wp2_with fail
      go_ret
      exact ⟨m, by omega, rfl, hb⟩
theorem cnt_any (x : RM.Dm) : CntOk x := RM.Dl.all_of CntOk cnt_step (.one x) 0 x (by cases x; rfl)

/-! ### Check -/
def chv (b : Bool) : Value := if b then .nilIface else .iface 38 (.int .i64 7)
set_option maxRecDepth 100000 in
theorem check_any (x : RM.Dm) (w : World) (v : Value) (h : In w v x.is) : Calls Tryz.prog 96 #[dtv x v] w fun e w' => e = .returned (chv (SM.okd x)) ∧ Went w w' := by
  obtain ⟨A, c, rfl⟩ := h.read
  have hlen := h.len
  obtain ⟨Z, hZ⟩ : ∃ Z, SM.sz x.is = Z := ⟨_, rfl⟩
  obtain ⟨G, hG⟩ : ∃ G, SM.ro 1 x = G := ⟨_, rfl⟩
  have hok : SM.okd x = (decide (Z + 1 ≤ 4000) && G) := by
    rw [← hZ, ← hG]
    unfold SM.okd SM.ro SM.rt
    rw [show decide ((SM.hi x.is : Int) + 1 ≤ 64) = decide (SM.hi x.is + 1 ≤ 64) by congr 1; simp only [eq_iff_iff]; omega]
    cases SM.kd x.k x.n x.s x.is <;> cases SM.rgt x.is <;> simp
  rw [hok]
  have hC := Lib.hid (fun (w' : World) (hb : Below w.heap.size w w') => cnt_any x w' (.slice A x.is.len c) 0 (h.below hb) (by omega) (by omega))
  have hR := Lib.hid (fun (w' : World) (hb : Below w.heap.size w w') => right_any x w' (.slice A x.is.len c) 1 (h.below hb) (by omega) (by omega))
  rw [hZ] at hC
  rw [hG] at hR
  rw [show (decide ((1 : Int) ≤ 64) && G) = G by simp] at hR
  clear hZ hG hok h
  unfold dtv at hC hR ⊢
  obtain ⟨N, hN⟩ : ∃ N, x.is.len = N := ⟨_, rfl⟩
  rw [hN] at hC hR hlen ⊢
  clear hN
  have hL := Lies.made w 25 #[.int .i64 x.k, .int .i64 x.n, .string ⟨x.s.toArray⟩, .slice A N c]
  have hb0 : Below w.heap.size w (w.alloc (.cells #[.int .i64 x.k, .int .i64 x.n, .string ⟨x.s.toArray⟩, .slice A N c] 25)) := went_box _ _ _
  have hP : Hid (∀ (w' : World), Below w.heap.size w w' → Calls Tryz.prog 105 #[.agg #[.int .i64 x.k, .int .i64 x.n, .string ⟨x.s.toArray⟩, .slice A N c]] w' (SzN (0 + (Z : Int) + 1) w')) := Lib.hid (by
    intro w' hb
    have hb1 : Below w'.heap.size w' (w'.alloc (.cells #[.int .i64 x.k, .int .i64 x.n, .string ⟨x.s.toArray⟩, .slice A N c] 25)) := went_box _ _ _
    clear hL hb0 hR
    go_enter Tryz.func105, Tryz.ntmps105
    go_wp2_with (
      go_at_call 112
      refine (hC.out _ (hb.trans (Below.mono hb1 hb.size))).mono ?_
      rintro e w5 ⟨y5, h50, rfl, hb5⟩
      have h50' := Lib.hid h50
      clear h50)
    go_ret
    exact ⟨y5, h50'.out, rfl, hb1.trans (hb5.mono (by simp))⟩)
  clear hC
  by_cases hz : Z + 1 ≤ 4000
  · rw [decide_eq_true hz, Bool.true_and]
    cases G
    all_goals
      go_enter Tryz.func96, Tryz.ntmps96
      go_wp2_with (first
        | (go_at_call 105
           refine (hP.out _ hb0).mono ?_
           rintro e w5 ⟨y5, h50, rfl, hb5⟩
           have hy : y5 ≤ 4000 := by omega
           clear h50
           have hM := hL.below hb5 hL.lt
           have hb6 : Below w.heap.size w w5 := hb0.trans (hb5.mono (by simp))
           have y0 := hM.cell 0
           have y1 := hM.cell 1
           have y2 := hM.cell 2
           have y3 := hM.cell 3
           simp only [List.getElem?_cons_succ, List.getElem?_cons_zero] at y0 y1 y2 y3
           clear hL hb0 hb5 hM)
        | (go_at_call 106
           refine (hR.out _ hb6).mono ?_
           rintro e w7 ⟨rfl, hb7⟩
           have hb8 : Below w.heap.size w w7 := hb6.trans (hb7.mono hb6.size)
           clear hb7))
      go_ret
      exact ⟨rfl, hb8⟩
  · rw [decide_eq_false hz, Bool.false_and]
    go_enter Tryz.func96, Tryz.ntmps96
    go_wp2_with (
      go_at_call 105
      refine (hP.out _ hb0).mono ?_
      rintro e w5 ⟨y5, h50, rfl, hb5⟩
      have hy : 4000 < y5 := by omega
      clear h50)
    go_ret
    exact ⟨rfl, hb0.trans (hb5.mono (by simp))⟩
end Go.Proofs.YtpiekdcbjkgipaaGreat

/- Package datum: is a datum nothing at all (Nothing); may it be quoted (Quotable). -/
namespace Go.Proofs.YtpiekdcbjkgipaaGreat
open Go.ChangeShapes Go.WideShapes Go.ChangeAt Go.RowKit Go.Deep
theorem went_box9 (w : World) (vs : Array Value) (t : TypeId) : Went w (w.alloc (.cells vs t)) := (Below.refl _ w).alloc (Nat.le_refl _) _
set_option maxRecDepth 100000 in
theorem nothing_any (w : World) (k n : Int) (S : ByteArray) (A : Option Addr) (L c : Nat) (hL : L ≤ 9223372036854775807) :
    Calls Tryz.prog 83 #[.agg #[.int .i64 k, .int .i64 n, .string S, .slice A L c]] w fun e w' => e = .returned (.bool (decide (k = 0) && decide (n = 0) && decide (S.data.toList = []) && decide (L = 0))) ∧ Went w w' := by
  by_cases h1 : k = 0
  · subst h1
    by_cases h2 : n = 0
    · subst h2
      rcases Nat.eq_zero_or_pos S.size with h3 | h3
      · obtain ⟨e1, e3, e4⟩ := empty_yes (s := S) h3
        have e4' := Lib.hid e4
        clear e4
        rcases Nat.eq_zero_or_pos L with rfl | h0
        all_goals
          go_enter Tryz.func83, Tryz.ntmps83
          go_wp2_with fail
          go_ret
          exact ⟨ret_b (by rw [e4'.out]; simp; first | done | (rw [decide_eq_false (by omega), beq_eq_false_iff_ne]; omega)), went_box9 _ _ _⟩
      · obtain ⟨e1, e3⟩ := empty_no (s := S) h3
        have e4 : S.data.toList ≠ [] := fun h => by
          have := size_len S
          rw [h] at this
          simp at this; omega
        have e4' := Lib.hid e4
        clear e4
        go_enter Tryz.func83, Tryz.ntmps83
        go_wp2_with fail
        go_ret
        exact ⟨ret_b (by rw [decide_eq_false e4'.out]; simp), went_box9 _ _ _⟩
    · go_enter Tryz.func83, Tryz.ntmps83
      go_wp2_with fail
      go_ret
      exact ⟨ret_b (by simp [h2]), went_box9 _ _ _⟩
  · go_enter Tryz.func83, Tryz.ntmps83
    go_wp2_with fail
    go_ret
    exact ⟨ret_b (by simp [h1]), went_box9 _ _ _⟩
set_option maxRecDepth 100000 in
set_option maxHeartbeats 2000000 in
theorem quotable_any (x : RM.Dm) (w : World) (A : Option Addr) (c : Nat) (h : In w (.slice A x.is.len c) x.is) :
    Calls Tryz.prog 80 #[dtv x (.slice A x.is.len c)] w fun e w' => e = .returned (.bool (TM.quo x)) ∧ Went w w' := by
  have hlen := h.len
  have hq : ∀ n, (x.k = 0 → x.n ≠ 1 → n = x.n) → (x.k = 0 → x.n = 1 → n = 0) → (x.k ≠ 0 → n = x.n) →
      ((decide (x.k = 0) && decide (n = 0) && decide (x.s = []) && decide (x.is.len = 0)) || SM.okd ⟨x.k, n, x.s, x.is⟩) = TM.quo x := by
    intro n h1 h2 h3
    by_cases h0 : x.k = 0
    · have e : SM.okd ⟨x.k, n, x.s, x.is⟩ = false := by
        unfold SM.okd SM.kd
        simp [h0]
      rw [e]
      unfold TM.quo
      rw [if_pos h0]
      by_cases h4 : x.n = 1
      · rw [h2 h0 h4]; simp [h0, h4]
      · rw [h1 h0 h4]; simp [h0, h4]
    · rw [h3 h0]
      unfold TM.quo
      rw [if_neg h0]
      simp [h0]
  obtain ⟨n1, h1, h2, h3⟩ : ∃ n1, (x.k = 0 → x.n ≠ 1 → n1 = x.n) ∧ (x.k = 0 → x.n = 1 → n1 = 0) ∧ (x.k ≠ 0 → n1 = x.n) := by
    by_cases h : x.k = 0 ∧ x.n = 1
    · exact ⟨0, fun _ h2 => absurd h.2 h2, fun _ _ => rfl, fun h2 => absurd h.1 h2⟩
    · exact ⟨x.n, fun _ _ => rfl, fun ha hb => absurd ⟨ha, hb⟩ h, fun _ => rfl⟩
  have hqq := hq n1 h1 h2 h3
  have hC := Lib.hid (fun (w' : World) (hb : Below w.heap.size w w') => check_any ⟨x.k, n1, x.s, x.is⟩ w' (.slice A x.is.len c) (h.below hb))
  have hE := Lib.hid (fun (w' : World) => nothing_any w' x.k n1 ⟨x.s.toArray⟩ A x.is.len c hlen)
  obtain ⟨q, hqe⟩ : ∃ q, TM.quo x = q := ⟨_, rfl⟩
  rw [hqe] at hqq ⊢
  simp only at hE
  obtain ⟨nb, hnb⟩ : ∃ nb, (decide (x.k = 0) && decide (n1 = 0) && decide (x.s = []) && decide (x.is.len = 0)) = nb := ⟨_, rfl⟩
  obtain ⟨cb, hcb⟩ : ∃ cb, SM.okd ⟨x.k, n1, x.s, x.is⟩ = cb := ⟨_, rfl⟩
  rw [hnb] at hqq hE
  rw [hcb] at hqq hC
  unfold dtv at hC ⊢
  simp only at hC ⊢
  generalize x.is.len = N at hC hE hlen ⊢
  generalize (⟨x.s.toArray⟩ : ByteArray) = S at hC hE ⊢
  generalize x.k = k at hC hE h1 h2 h3 ⊢
  generalize x.n = n at h1 h2 h3 ⊢
  clear hnb hcb hqe hq h
  subst hqq
  have hL := Lies.made w 25 #[.int .i64 k, .int .i64 n, .string S, .slice A N c]
  have hb0 : Below w.heap.size w (w.alloc (.cells #[.int .i64 k, .int .i64 n, .string S, .slice A N c] 25)) := (Below.refl _ w).alloc (Nat.le_refl _) _
  by_cases h0 : k = 0 ∧ n = 1
  · obtain ⟨rfl, rfl⟩ := h0
    obtain rfl := h2 rfl rfl
    clear h1 h2 h3
    have hL2 := Lies.made w 25 #[.int .i64 0, .int .i64 0, .string S, .slice A N c]
    have hb1 : Below w.heap.size w (w.alloc (.cells #[.int .i64 0, .int .i64 0, .string S, .slice A N c] 25)) := (Below.refl _ w).alloc (Nat.le_refl _) _
    clear hL hb0
    cases nb <;> cases cb
    all_goals
      unfold chv at hC
      go_enter Tryz.func80, Tryz.ntmps80
      go_wp2_with (first
        | (go_at_call 83
           refine (hE.out _).mono ?_
           rintro e w2 ⟨rfl, hb2⟩
           have hL3 := hL2.below hb2 hL2.lt
           have hb3 : Below w.heap.size w w2 := hb1.trans (hb2.mono hb1.size)
           have z0 := hL3.cell 0
           have z1 := hL3.cell 1
           have z2 := hL3.cell 2
           have z3 := hL3.cell 3
           simp only [List.getElem?_cons_succ, List.getElem?_cons_zero] at z0 z1 z2 z3
           clear hb2)
        | (go_at_call 96
           refine (hC.out _ hb3).mono ?_
           rintro e w4 ⟨rfl, hb4⟩
           have hb5 : Below w.heap.size w w4 := hb3.trans (hb4.mono hb3.size)
           clear hb4))
      go_ret
      exact ⟨rfl, by assumption⟩
  · have hnn : n1 = n := by
      by_cases h4 : k = 0
      · exact h1 h4 (fun h5 => h0 ⟨h4, h5⟩)
      · exact h3 h4
    subst hnn
    clear h1 h2 h3
    have y0 := hL.cell 0
    have y1 := hL.cell 1
    have y2 := hL.cell 2
    have y3 := hL.cell 3
    simp only [List.getElem?_cons_succ, List.getElem?_cons_zero] at y0 y1 y2 y3
    by_cases h6 : k = 0
    · subst h6
      have h7 : ¬ n1 = 1 := fun h => h0 ⟨rfl, h⟩
      clear h0
      cases nb <;> cases cb
      all_goals
        unfold chv at hC
        go_enter Tryz.func80, Tryz.ntmps80
        go_wp2_with (first
          | (go_at_call 83
             refine (hE.out _).mono ?_
             rintro e w2 ⟨rfl, hb2⟩
             have hL3 := hL.below hb2 hL.lt
             have hb3 : Below w.heap.size w w2 := hb0.trans (hb2.mono hb0.size)
             have z0 := hL3.cell 0
             have z1 := hL3.cell 1
             have z2 := hL3.cell 2
             have z3 := hL3.cell 3
             simp only [List.getElem?_cons_succ, List.getElem?_cons_zero] at z0 z1 z2 z3
             clear hb2)
          | (go_at_call 96
             refine (hC.out _ hb3).mono ?_
             rintro e w4 ⟨rfl, hb4⟩
             have hb5 : Below w.heap.size w w4 := hb3.trans (hb4.mono hb3.size)
             clear hb4))
        go_ret
        exact ⟨rfl, by assumption⟩
    · clear h0
      cases nb <;> cases cb
      all_goals
        unfold chv at hC
        go_enter Tryz.func80, Tryz.ntmps80
        go_wp2_with (first
          | (go_at_call 83
             refine (hE.out _).mono ?_
             rintro e w2 ⟨rfl, hb2⟩
             have hL3 := hL.below hb2 hL.lt
             have hb3 : Below w.heap.size w w2 := hb0.trans (hb2.mono hb0.size)
             have z0 := hL3.cell 0
             have z1 := hL3.cell 1
             have z2 := hL3.cell 2
             have z3 := hL3.cell 3
             simp only [List.getElem?_cons_succ, List.getElem?_cons_zero] at z0 z1 z2 z3
             clear hb2)
          | (go_at_call 96
             refine (hC.out _ hb3).mono ?_
             rintro e w4 ⟨rfl, hb4⟩
             have hb5 : Below w.heap.size w w4 := hb3.trans (hb4.mono hb3.size)
             clear hb4))
        go_ret
        exact ⟨rfl, by assumption⟩
end Go.Proofs.YtpiekdcbjkgipaaGreat

/- Package term: may a procedure have these Params; is a datum nothing, may it be quoted; going into a procedure, and on behind it. -/
namespace Go.Proofs.YtpiekdcbjkgipaaGreat
open Go.ChangeShapes Go.WideShapes Go.ChangeAt Go.RowKit Go.Deep
open TM (Tl Tm)

namespace TM
def tak (n : Int) (L : Nat) : Bool := decide (L ≤ 24) && (decide (n = 0) || (decide (n = 1) && !decide (L = 0)))
/-- what is known of each local: 1: its procedure is around; 2: behind -/
def ls (met bd : List Int) : Int → Int := fun x => if bd.contains x then 1 else if met.contains x then 2 else 0
theorem ls_enter (met bd : List Int) (p : Int) : setS (ls met bd) p 1 = ls (met ++ [p]) (bd ++ [p]) := by
  funext x
  unfold setS ls
  by_cases h : x = p
  · simp [h]
  · simp [h]
end TM
set_option maxRecDepth 100000 in
theorem takes_any (w : World) (k n : Int) (S : ByteArray) (P : Option Addr) (L p : Nat) (dk dn : Int) (dS : ByteArray) (vi vk : Value) (hL : L ≤ 9223372036854775807) :
    Calls Tryz.prog 82 #[.agg #[.int .i64 k, .int .i64 n, .string S, .slice P L p, .int .i64 dk, .int .i64 dn, .string dS, vi, vk]] w fun e w' => e = .returned (.bool (TM.tak n L)) ∧ Went w w' := by
  by_cases h1 : L ≤ 24
  · by_cases h2 : n = 0
    · subst h2
      rcases Nat.eq_zero_or_pos L with rfl | h0
      all_goals
        go_enter Tryz.func82, Tryz.ntmps82
        go_wp2_with fail
        all_goals
          go_ret
          exact ⟨ret_b (by simp [TM.tak]; first | done | omega | (rw [Bool.eq_iff_iff]; simp; omega)), went_box9 _ _ _⟩
    · by_cases h3 : n = 1
      · subst h3
        rcases Nat.eq_zero_or_pos L with rfl | h0
        all_goals
          go_enter Tryz.func82, Tryz.ntmps82
          go_wp2_with fail
          all_goals
            go_ret
            exact ⟨ret_b (by simp [TM.tak]; first | done | omega | (rw [Bool.eq_iff_iff]; simp; omega)), went_box9 _ _ _⟩
      · by_cases h4 : 0 ≤ n
        all_goals
          go_enter Tryz.func82, Tryz.ntmps82
          go_wp2_with fail
          all_goals
            go_ret
            exact ⟨ret_b (by simp [TM.tak, h2, h3]; try omega), went_box9 _ _ _⟩
  · go_enter Tryz.func82, Tryz.ntmps82
    go_wp2_with fail
    go_ret
    exact ⟨ret_b (by simp [TM.tak]; first | done | omega | (rw [Bool.eq_iff_iff]; simp; omega)), went_box9 _ _ _⟩
namespace TM
theorem ls_zero {met bd : List Int} (h : ∀ x, bd.contains x = true → met.contains x = true) {p : Int} : ls met bd p = 0 ↔ met.contains p = false := by
  unfold ls
  by_cases h1 : bd.contains p = true
  · rw [if_pos h1, h p h1]; simp
  · rw [if_neg h1]
    by_cases h2 : met.contains p = true
    · rw [if_pos h2, h2]; simp
    · rw [if_neg h2]; simp at h2 ⊢; exact h2
theorem ls_one {met bd : List Int} {p : Int} : ls met bd p = 1 ↔ bd.contains p = true := by
  unfold ls
  by_cases h1 : bd.contains p = true
  · rw [if_pos h1, h1]; simp
  · rw [if_neg h1]
    constructor
    · intro h
      split at h <;> omega
    · intro h; exact absurd h h1
theorem ls_leave {met bd : List Int} {p : Int} {r : List Int} (h1 : met.contains p = true) (h2 : bd.contains p = false) (h3 : p ∉ r) : setS (ls met (bd ++ p :: r)) p 2 = ls met (bd ++ r) := by
  funext x
  unfold setS ls
  by_cases h : x = p
  · subst h
    simp at h1 h2
    simp [h1, h2, h3]
  · simp [h]
end TM
def LocsN (q : Nat) (n : Nat) (met bd : List Int) (ok : Bool) (w : World) (e : Ending) (w' : World) : Prop := e = .returned (.bool ok) ∧ Turns (fun g => g = q) w w' ∧ (ok = true → ∃ n', n' ≤ n ∧ Im w' q n' (TM.ls met bd))
set_option maxRecDepth 100000 in
set_option maxHeartbeats 2000000 in
theorem enter_any (q n : Nat) (met bd ps : List Int) (w0 w : World) (v : Value) (h : PIn w0 v ps) (hb : Below w0.heap.size w0 w) (hq : w0.heap.size ≤ q) (hI : Im w q n (TM.ls met bd)) (hbm : ∀ x, bd.contains x = true → met.contains x = true) (h64 : ∀ p ∈ ps, b64 p) (hn : n ≤ 1000000) (hl : ps.length ≤ 1000) :
    Calls Tryz.prog 70 #[.map (some q), v] w (LocsN q (n + ps.length) (met ++ ps) (bd ++ ps) (TM.frs met ps) w) := by
  obtain ⟨A, c, rfl⟩ := h.read
  obtain ⟨L, hL⟩ : ∃ L, ps.length = L := ⟨_, rfl⟩
  rw [hL] at h hl ⊢
  have hL' := Lib.hid hL
  have h64' := Lib.hid h64
  have hbm' := Lib.hid hbm
  have hI' := Lib.hid hI
  clear hL h64 hbm hI
  go_enter Tryz.func70, Tryz.ntmps70
  go_wp2_with fail
  go_loopw [9] (fun i wr => ∃ (j n' : Nat), j ≤ L ∧ i = .int .i64 j ∧ Hid (TM.frs met (ps.take j) = true) ∧ Im wr q n' (TM.ls (met ++ ps.take j) (bd ++ ps.take j)) ∧ n' ≤ n + j ∧ Turns (fun g => g = q) w wr) (fun i _ => L - (intOf i).toNat)
  case atStart => exact ⟨0, n, Nat.zero_le _, rfl, Lib.hid rfl, by simpa using hI'.out, by omega, Turns.refl _ _⟩
  case round =>
    obtain ⟨j, n', hj, rfl, hf, hI2, hn', hT⟩ := hrel
    have hI2' := Lib.hid hI2
    have hT' := Lib.hid hT
    clear hT
    by_cases hlt : j < L
    · have hx : ps[j]? = some (ps[j]'(by rw [hL'.out]; exact hlt)) := List.getElem?_eq_getElem _
      obtain ⟨x, hxe⟩ : ∃ x, ps[j]'(by rw [hL'.out]; exact hlt) = x := ⟨_, rfl⟩
      rw [hxe] at hx
      obtain ⟨b, o, rfl, hb0, p0⟩ := h.cell hx
      have hbr : Below w0.heap.size w0 wr := ⟨hT'.out.os.trans hb.os, hT'.out.tape.trans hb.tape, hT'.out.output.trans hb.output, Nat.le_trans hb.size hT'.out.size, fun i hi => (hT'.out.block i (Nat.lt_of_lt_of_le hi hb.size) (by omega)).trans (hb.block i hi)⟩
      have y0 : wr.cell? ⟨b, o + j, none⟩ = some (.int .i64 x) := (hbr.cell (p := ⟨b, o + j, none⟩) hb0).trans p0
      have x64 := h64'.out x (by rw [← hxe]; exact List.getElem_mem _)
      have htk : ps.take (j + 1) = ps.take j ++ [x] := by
        rw [List.take_add_one, hx]; rfl
      have hsp : ps = ps.take j ++ (x :: ps.drop (j + 1)) := by
        rw [← hxe, ← List.drop_eq_getElem_cons, List.take_append_drop]
      have hz := @TM.ls_zero (met ++ ps.take j) (bd ++ ps.take j) (fun y hy => by
        have h2 := hbm'.out y
        simp at hy h2 ⊢
        rcases hy with hy | hy
        · exact .inl (h2 hy)
        · exact .inr hy) x
      have hlk := hI2.look (t := 96) Tryz.underlying96 x64
      have hput := hI2.put (t := 96) Tryz.underlying96 (by omega) x64 (k := 1) ⟨by omega, by omega⟩ (by omega)
      obtain ⟨sv, hsv⟩ : ∃ sv, TM.ls (met ++ ps.take j) (bd ++ ps.take j) x = sv := ⟨_, rfl⟩
      rw [hsv] at hlk hz hput
      have hno : ∀ b : Bool, b = false → (1 ≤ x → sv ≠ 0) → b = TM.frs met ps := by
        intro b hb1 h1
        rw [hb1, hsp, TM.frs_app, hf.out, TM.frs]
        by_cases h2 : 1 ≤ x
        · have := h1 h2
          have h3 : (met ++ ps.take j).contains x = true := by
            cases hh : (met ++ ps.take j).contains x
            · exact absurd (hz.2 hh) this
            · rfl
          rw [h3]; simp
        · simp [h2]
      have hno' := Lib.hid hno
      have htk' := Lib.hid htk
      have hsp' := Lib.hid hsp
      have hz' := Lib.hid hz
      clear hx hxe htk hsp hz hno hb0 p0 hbr hsv hI2
      by_cases h1 : x ≤ 0
      · clear hlk hput
        go_wp2_with fail
        go_ret
        exact ⟨ret_b (hno'.out _ rfl (fun h => by omega)), hT'.out, fun h => by rw [← hno'.out false rfl (fun h => by omega)] at h; simp at h⟩
      · by_cases h2 : sv = 0
        · subst h2
          obtain ⟨w2, hrun, hI3, hT3⟩ := hput
          have hT4 := Lib.hid (hT'.out.then hT3 (fun _ _ h => h))
          rw [TM.ls_enter, List.append_assoc, List.append_assoc, ← htk'.out] at hI3
          simp only [if_true] at hI3
          have hI3' := Lib.hid hI3
          have hf3 : TM.frs met (ps.take (j + 1)) = true := by
            rw [htk'.out, TM.frs_app, hf.out, TM.frs, hz'.out.1 rfl]
            simp [TM.frs]; omega
          have hf3' := Lib.hid hf3
          clear hI3 hT3 hf3
          go_wp2_with fail
          go_roundw
          case rel => exact ⟨j + 1, n' + 1, by omega, by go_num, hf3', hI3'.out, by omega, hT4.out⟩
          case measure => simp [intOf]; omega
        · clear hput
          go_wp2_with fail
          go_ret
          exact ⟨ret_b (hno'.out _ rfl (fun _ => h2)), hT'.out, fun h => by rw [← hno'.out false rfl (fun _ => h2)] at h; simp at h⟩
    · obtain rfl : j = L := by omega
      have ht : ps.take j = ps := by rw [← hL'.out]; exact List.take_length
      rw [ht] at hI2 hf
      clear hI2'
      have hI2' := Lib.hid hI2
      clear hI2
      go_wp2_with fail
      go_ret
      exact ⟨ret_b hf.out.symm, hT'.out, fun _ => ⟨n', hn', hI2'.out⟩⟩
set_option maxRecDepth 100000 in
set_option maxHeartbeats 2000000 in
theorem leave_any (q n : Nat) (met bd ps : List Int) (w0 w : World) (v : Value) (h : PIn w0 v ps) (hb : Below w0.heap.size w0 w) (hq : w0.heap.size ≤ q) (hI : Im w q n (TM.ls met (bd ++ ps))) (hm : ∀ p ∈ ps, met.contains p = true ∧ bd.contains p = false) (hnd : ps.Nodup) (h64 : ∀ p ∈ ps, b64 p) (hn : n ≤ 1000000) (hl : ps.length ≤ 1000) :
    Calls Tryz.prog 71 #[.map (some q), v] w fun e w' => e = .returned (.tuple #[]) ∧ Im w' q n (TM.ls met bd) ∧ Turns (fun g => g = q) w w' := by
  obtain ⟨A, c, rfl⟩ := h.read
  obtain ⟨L, hL⟩ : ∃ L, ps.length = L := ⟨_, rfl⟩
  rw [hL] at h hl ⊢
  have hL' := Lib.hid hL
  have h64' := Lib.hid h64
  have hm' := Lib.hid hm
  have hI' := Lib.hid hI
  have hnd' := Lib.hid hnd
  clear hL h64 hm hI hnd
  go_enter Tryz.func71, Tryz.ntmps71
  go_wp2_with fail
  go_loopw [8] (fun i wr => ∃ (j : Nat), j ≤ L ∧ i = .int .i64 j ∧ Im wr q n (TM.ls met (bd ++ ps.drop j)) ∧ Turns (fun g => g = q) w wr) (fun i _ => L - (intOf i).toNat)
  case atStart => exact ⟨0, Nat.zero_le _, rfl, by simpa using hI'.out, Turns.refl _ _⟩
  case round =>
    obtain ⟨j, hj, rfl, hI2, hT⟩ := hrel
    have hT' := Lib.hid hT
    clear hT
    by_cases hlt : j < L
    · have hx : ps[j]? = some (ps[j]'(by rw [hL'.out]; exact hlt)) := List.getElem?_eq_getElem _
      obtain ⟨x, hxe⟩ : ∃ x, ps[j]'(by rw [hL'.out]; exact hlt) = x := ⟨_, rfl⟩
      rw [hxe] at hx
      obtain ⟨b, o, rfl, hb0, p0⟩ := h.cell hx
      have hbr : Below w0.heap.size w0 wr := ⟨hT'.out.os.trans hb.os, hT'.out.tape.trans hb.tape, hT'.out.output.trans hb.output, Nat.le_trans hb.size hT'.out.size, fun i hi => (hT'.out.block i (Nat.lt_of_lt_of_le hi hb.size) (by omega)).trans (hb.block i hi)⟩
      have y0 : wr.cell? ⟨b, o + j, none⟩ = some (.int .i64 x) := (hbr.cell (p := ⟨b, o + j, none⟩) hb0).trans p0
      have hxm : x ∈ ps := by rw [← hxe]; exact List.getElem_mem _
      have x64 := h64'.out x hxm
      have hsp : ps.drop j = x :: ps.drop (j + 1) := by rw [← hxe, ← List.drop_eq_getElem_cons]
      have hnot : x ∉ ps.drop (j + 1) := by
        have := (List.drop_sublist j ps).nodup hnd'.out
        rw [hsp] at this
        exact (List.nodup_cons.1 this).1
      rw [hsp] at hI2
      have hone : TM.ls met (bd ++ x :: ps.drop (j + 1)) x ≠ 0 := by
        rw [TM.ls_one.2 (by simp)]; omega
      obtain ⟨w2, hrun, hI3, hT3⟩ := hI2.put (t := 96) Tryz.underlying96 (by omega) x64 (k := 2) ⟨by omega, by omega⟩ (by omega)
      rw [if_neg hone, TM.ls_leave (hm'.out x hxm).1 (hm'.out x hxm).2 hnot] at hI3
      have hT4 := Lib.hid (hT'.out.then hT3 (fun _ _ h => h))
      have hI3' := Lib.hid hI3
      clear hx hxe hb0 p0 hbr hsp hnot hxm hone hI2 hI3 hT3
      go_wp2_with fail
      go_roundw
      case rel => exact ⟨j + 1, by omega, by go_num, hI3'.out, hT4.out⟩
      case measure => simp [intOf]; omega
    · obtain rfl : j = L := by omega
      have ht : ps.drop j = [] := by rw [← hL'.out]; exact List.drop_length
      rw [ht, List.append_nil] at hI2
      have hI2' := Lib.hid hI2
      clear hI2
      go_wp2_with fail
      go_end0
      exact ⟨rfl, hI2'.out, hT'.out⟩
end Go.Proofs.YtpiekdcbjkgipaaGreat
