/- What package read finds right: all of a datum, its parts; Check. -/
import Derived.Test.YtbomodendobnkaaGreatQ29
import Derived.Test.YtbomodendobnkaaGreatQ20
namespace Go.Proofs.YtbomodendobnkaaGreat
open Go.ChangeShapes Go.WideShapes Go.ChangeAt Go.RowKit

/-! ### all of a datum -/
/-! ### how many parts -/
def CntOk (x : RM.Dm) : Prop := ∀ (w : World) (v : Value) (n : Int), In w v x.is → 0 ≤ n → n < 5000 → Calls Tryz.prog 48 #[.int .i64 n, dtv x v] w (SzN (n + SM.sz x.is + 1) w)
set_option maxRecDepth 100000 in
set_option maxHeartbeats 4000000 in
theorem cnt_step (k n : Int) (s : List UInt8) (is : RM.Dl) (hP : ∀ i x, is.at_ i = some x → CntOk x) : CntOk ⟨k, n, s, is⟩ := by
  intro w v n0 h1 hn0 hn1
  obtain ⟨A1, c1, rfl⟩ := h1.read
  have hlen := h1.len
  simp only at h1 hlen ⊢
  unfold dtv
  simp only
  obtain ⟨N, hN⟩ : ∃ N, is.len = N := ⟨_, rfl⟩
  obtain ⟨Z, hZ⟩ : ∃ Z, SM.sz is = Z := ⟨_, rfl⟩
  rw [hN] at h1 hlen ⊢
  rw [hZ]
  have hN' := Lib.hid hN
  have hZ' := Lib.hid hZ
  have hP' := Lib.hid hP
  have hL := Lies.made w 24 #[.int .i64 k, .int .i64 n, .string ⟨s.toArray⟩, .slice A1 N c1]
  have hb0 : Below w.heap.size w (w.alloc (.cells #[.int .i64 k, .int .i64 n, .string ⟨s.toArray⟩, .slice A1 N c1] 24)) := went_box _ _ _
  clear hN hP hZ
  go_enter Tryz.func48, Tryz.ntmps48
  go_wp2_with fail
  go_loopw [0, 12] (fun y i wr => ∃ (j R : Nat) (m : Int), j ≤ N ∧ i = .int .i64 j ∧ Hid (SM.sz (SM.dr is j) = R) ∧ min (m + (R : Int)) 5000 = min (n0 + (Z : Int) + 1) 5000 ∧ 0 ≤ m ∧ m ≤ 5000 ∧ y = .int .i64 m ∧ Below w.heap.size w wr) (fun _ i _ => N - (intOf i).toNat)
  case atStart => exact ⟨0, Z, n0 + 1, by omega, rfl, Lib.hid (by rw [SM.dr_zero]; exact hZ'.out), by omega, by omega, by omega, rfl, hb0⟩
  case round =>
    obtain ⟨j, R, m, hj, rfl, hR, hm, hm0, hm1, rfl, hb⟩ := hrel
    clear hL hb0
    by_cases hlt : j < N
    · obtain ⟨x, hx⟩ := is.at_some j (by rw [hN'.out]; exact hlt)
      obtain ⟨b, o, B, q, rfl, hb0, p0, p1, p2, p3, hd1⟩ := (h1.below hb).at_ hx
      by_cases hmm : m < 5000
      · have hx' := Lib.hid (hP'.out j x hx)
        have hR0 := hR.out
        rw [SM.sz_at hx] at hR0
        obtain ⟨R1, hR1⟩ : ∃ R1, SM.sz (SM.dr is (j + 1)) = R1 := ⟨_, rfl⟩
        obtain ⟨X, hX⟩ : ∃ X, SM.sz x.is = X := ⟨_, rfl⟩
        rw [hR1, hX] at hR0
        have hR1' := Lib.hid hR1
        have hC := Lib.hid (fun (w' : World) (hb' : Below wr.heap.size wr w') => hx'.out w' (.slice B x.is.len q) m (hd1.below hb') (by omega) (by omega))
        rw [hX] at hC
        unfold dtv at hC
        clear hx hR1 hX hx'
        go_wp2_with (
          go_at_call 48
          refine (hC.out _ (went_box _ _ _)).mono ?_
          rintro e w5 ⟨y5, h50, rfl, hb5⟩
          have h50' := Lib.hid h50
          have hb6 : Below w.heap.size w w5 := hb.trans (Below.mono (went_box _ _ _) hb.size |>.trans (hb5.mono (by simp; have := hb.size; omega)))
          clear h50 p0 p1 p2 p3 hb5)
        have h50 := h50'.out
        go_roundw
        case rel => exact ⟨j + 1, R1, y5, by omega, by go_num, hR1', by omega, by omega, by omega, rfl, hb6⟩
        case measure => simp [intOf]; omega
      · have h5 : m = 5000 := by omega
        subst h5
        clear hx
        go_wp2_with fail
        go_ret
        exact ⟨5000, by omega, rfl, hb.trans (Below.mono (went_box _ _ _) hb.size)⟩
    · obtain rfl : j = N := by omega
      have hR0 := hR.out
      rw [SM.dr_end is j (by rw [hN'.out]; exact Nat.le_refl _)] at hR0
      have hR1 : R = 0 := hR0.symm
      go_wp2_with fail
      go_ret
      exact ⟨m, by omega, rfl, hb⟩
theorem cnt_any (x : RM.Dm) : CntOk x := RM.Dl.all_of CntOk cnt_step (.one x) 0 x (by cases x; rfl)

/-! ### Check -/
def chv (b : Bool) : Value := if b then .nilIface else .iface 47 (.int .i64 7)
end Go.Proofs.YtbomodendobnkaaGreat

/- Package match: variables, by induction; which pattern may be. -/
namespace Go.Proofs.YtbomodendobnkaaGreat
open Go.ChangeShapes Go.WideShapes Go.ChangeAt Go.RowKit Go.Deep
open MM (Bl Bm Var)

set_option maxRecDepth 100000 in
set_option maxHeartbeats 4000000 in
theorem vars_step (w0 : World) (q m : Nat) (n : MM.NM) (hN : Nm w0 q m n) (f : Nat) (hf : f ≤ 1000) (hV : VarsOk w0 q n f) : VarsOk w0 q n (f + 1) := by
  intro w x v hb hp
  obtain ⟨A, c, rfl⟩ := hp.v.read
  have hO := Lib.hid (fun (w' : World) (hb' : Below w0.heap.size w0 w') => of_any w' q m n x _ (hN.below hb') hp.s (hp.v.below hb'))
  have hI := Lib.hid (fun (w' : World) (hb' : Below w0.heap.size w0 w') => inRow_any w0 q m n hN f hf hV w' x _ hb' hp)
  have hW := Lib.hid (fun (w' : World) => whole_any w' x.s)
  unfold dtv vrv at *
  have hb1 := m_box w #[.int .i64 x.k, .int .i64 x.n, .string ⟨x.s.toArray⟩, .slice A x.is.len c] 24
  have hL1 := Lies.made w 24 #[.int .i64 x.k, .int .i64 x.n, .string ⟨x.s.toArray⟩, .slice A x.is.len c]
  have hb0 := Lib.hid (hb.trans (hb1.mono hb.size))
  obtain ⟨R, hR⟩ : ∃ R, MM.vars n (f + 1) x = R := ⟨_, rfl⟩
  rw [hR]
  unfold MM.vars at hR
  obtain ⟨C, hC⟩ : ∃ C, MM.cls n x = C := ⟨_, rfl⟩
  rw [hC] at hR hO
  clear hC hp hN hV
  by_cases h2 : C = 2
  · subst h2
    rw [if_pos rfl] at hR
    subst hR
    go_enter Tryz.func29, Tryz.ntmps29
    go_wp2_with (go_at_call 20; refine (hO.out _ hb0.out).mono ?_; rintro e w3 ⟨rfl, hb3⟩)
    go_ret2
    exact ⟨hb1.trans (hb3.mono hb1.size), .inl ⟨rfl, rfl⟩⟩
  rw [if_neg h2] at hR
  by_cases h0 : C = 0
  · subst h0
    rw [if_pos rfl] at hR
    subst hR
    go_enter Tryz.func29, Tryz.ntmps29
    go_wp2_with (first
      | (go_at_call 20
         refine (hO.out _ hb0.out).mono ?_
         rintro e w3 ⟨rfl, hb3⟩
         have hM3 := hL1.below hb3 hL1.lt
         have k2 := hM3.cell 2
         simp only [List.getElem?_cons_zero, List.getElem?_cons_succ] at k2
         have hbw := Lib.hid (hb1.trans (hb3.mono hb1.size))
         clear hb3)
      | (go_at_call 46
         refine (hW.out _).mono ?_
         rintro e w5 ⟨u, rfl, hF, hb5⟩
         have hF' := Lib.hid hF
         obtain ⟨kn, ln, rfl, -⟩ := hF
         have hb5' := Lib.hid hb5
         clear hb5))
    go_ret2
    have hb6 := hbw.out.trans (hb5'.out.mono hbw.out.size)
    have hb7 := hb6.alloc hb6.size (.cells #[.string ⟨x.s.toArray⟩, .int .i64 0, .func (.func kn) #[] ln] 60)
    have hs5 := hb5'.out.size
    have hs6 := hb6.size
    have hs3 := hbw.out.size
    refine ⟨hb7, .inr ⟨[MM.whole x.s], _, _, rfl, rfl, ⟨[.string ⟨x.s.toArray⟩, .int .i64 0, .func (.func kn) #[] ln], own_one (e := 60) (sz := 3) (B := 0) w5 #[.string ⟨x.s.toArray⟩, .int .i64 0, .func (.func kn) #[] ln] rfl (Nat.zero_le _), fun g hg => ?_, ⟨.func (.func kn) #[] ln, [], rfl, ?_, rfl⟩⟩, fun g hg => ?_⟩⟩
    · have : w5.heap.size = g := by simpa [Value.ownBlock] using hg
      subst this
      exact .inr ⟨hs6, by simp⟩
    · refine ((hF'.out.mono (S' := fun g => w3.heap.size ≤ g ∧ g < w5.heap.size) (fun g hg hs => ⟨hs, hg⟩)).kp (Kp.of_below ((Below.refl _ w5).alloc (Nat.le_refl _) _))).mono (fun g hg hs => ?_)
      refine ⟨.inr ⟨Nat.le_trans hs3 hs.1, hg⟩, fun hh => ?_⟩
      have : w5.heap.size = g := by simpa [Value.ownBlock] using hh
      omega
    · have : w5.heap.size = g := by simpa [Value.ownBlock] using hg
      omega
  rw [if_neg h0] at hR
  by_cases h4 : C = 4
  · subst h4
    rw [if_pos rfl] at hR
    rw [hR] at hI
    clear hR
    cases R with
    | none =>
      go_enter Tryz.func29, Tryz.ntmps29
      go_wp2_with (first
        | (go_at_call 20
           refine (hO.out _ hb0.out).mono ?_
           rintro e w3 ⟨rfl, hb3⟩
           have hM3 := hL1.below hb3 hL1.lt
           have k0 := hM3.cell 0
           have k1 := hM3.cell 1
           have k2 := hM3.cell 2
           have k3 := hM3.cell 3
           simp only [List.getElem?_cons_zero, List.getElem?_cons_succ] at k0 k1 k2 k3
           have hbw := Lib.hid (hb1.trans (hb3.mono hb1.size))
           clear hb3)
        | (go_at_call 47
           refine (hI.out _ (hb.trans (hbw.out.mono hb.size))).mono ?_
           intro e w5 h5
           obtain ⟨rfl, hb5⟩ := h5.none_
           clear h5))
      go_ret2
      exact ⟨hbw.out.trans (hb5.mono hbw.out.size), .inl ⟨rfl, rfl⟩⟩
    | some vs =>
      go_enter Tryz.func29, Tryz.ntmps29
      go_wp2_with (first
        | (go_at_call 20
           refine (hO.out _ hb0.out).mono ?_
           rintro e w3 ⟨rfl, hb3⟩
           have hM3 := hL1.below hb3 hL1.lt
           have k0 := hM3.cell 0
           have k1 := hM3.cell 1
           have k2 := hM3.cell 2
           have k3 := hM3.cell 3
           simp only [List.getElem?_cons_zero, List.getElem?_cons_succ] at k0 k1 k2 k3
           have hbw := Lib.hid (hb1.trans (hb3.mono hb1.size))
           clear hb3)
        | (go_at_call 47
           refine (hI.out _ (hb.trans (hbw.out.mono hb.size))).mono ?_
           intro e w5 h5
           obtain ⟨VA, vc, rfl, hO5, hOb5, hb5⟩ := h5.some_
           have hO6 := Lib.hid hO5
           have hOb6 := Lib.hid hOb5
           clear h5 hO5 hOb5))
      go_ret2
      have hs3 := hbw.out.size
      exact ⟨hbw.out.trans (hb5.mono hbw.out.size), .inr ⟨vs, VA, vc, rfl, rfl, hO6.out.mono (fun g _ hs => hs.imp id (fun h => ⟨Nat.le_trans hs3 h.1, h.2⟩)), fun g hg => Nat.le_trans hs3 (hOb6.out g hg)⟩⟩
  · rw [if_neg h4] at hR
    subst hR
    have e2 : (C == 2) = false := by simp [h2]
    have e0 : (C == 0) = false := by simp [h0]
    have e4 : (C == 4) = false := by simp [h4]
    go_enter Tryz.func29, Tryz.ntmps29
    go_wp2_with (go_at_call 20; refine (hO.out _ hb0.out).mono ?_; rintro e w3 ⟨rfl, hb3⟩)
    go_ret2
    exact ⟨hb1.trans (hb3.mono hb1.size), .inr ⟨[], none, 0, rfl, rfl, VOwn.nil _ _, fun g hg => by cases hg⟩⟩
theorem vars_any (w0 : World) (q m : Nat) (n : MM.NM) (hN : Nm w0 q m n) : ∀ (f : Nat), f ≤ 1000 → VarsOk w0 q n f
  | 0, _ => fun w x v _ hp => absurd hp.d (by omega)
  | f + 1, hf => vars_step w0 q m n hN f (by omega) (vars_any w0 q m n hN f (by omega))
/-! ### how deep, how many -/
theorem hi_dr_max {d : RM.Dl} {i : Nat} {x : RM.Dm} (h : d.at_ i = some x) (m : Nat) : (SM.hi (SM.dr d i) ≤ m) ↔ (SM.hi x.is + 1 ≤ m ∧ SM.hi (SM.dr d (i + 1)) ≤ m) := by
  rw [SM.hi_at h]; omega
def WithinOk (x : RM.Dm) : Prop := ∀ (w : World) (v : Value) (m : Nat), In w v x.is → m ≤ 1000 → Calls Tryz.prog 32 #[dtv x v, .int .i64 (m : Int)] w fun e w' => e = .returned (.bool (decide (SM.hi x.is + 1 ≤ m))) ∧ Went w w'
set_option maxRecDepth 100000 in
set_option maxHeartbeats 4000000 in
theorem within_step (k n : Int) (s : List UInt8) (is : RM.Dl) (hP : ∀ i x, is.at_ i = some x → WithinOk x) : WithinOk ⟨k, n, s, is⟩ := by
  intro w v m h hm
  obtain ⟨A1, c1, rfl⟩ := h.read
  have hlen := h.len
  simp only at h hlen ⊢
  unfold dtv
  simp only
  obtain ⟨N, hN⟩ : ∃ N, is.len = N := ⟨_, rfl⟩
  rw [hN] at h hlen ⊢
  have hN' := Lib.hid hN
  have hP' := Lib.hid hP
  obtain ⟨D, hD⟩ : ∃ D, decide (SM.hi is + 1 ≤ m) = D := ⟨_, rfl⟩
  rw [hD]
  have hD' := Lib.hid hD
  have hb1 := m_box w #[.int .i64 k, .int .i64 n, .string ⟨s.toArray⟩, .slice A1 N c1] 24
  clear hN hP hD
  cases m with
  | zero =>
    have : D = false := by rw [← hD'.out]; simp
    subst this
    go_enter Tryz.func32, Tryz.ntmps32
    go_wp2_with fail
    go_ret
    exact ⟨rfl, hb1⟩
  | succ m =>
    have e0 : (((m + 1 : Nat) : Int) == 0) = false := by
      have : ¬ ((m + 1 : Nat) : Int) = 0 := by omega
      simp
      omega
    have e1 : ((m + 1 : Nat) : Int) - 1 = (m : Int) := by omega
    obtain ⟨M, hM⟩ : ∃ M : Int, ((m + 1 : Nat) : Int) = M := ⟨_, rfl⟩
    rw [hM] at e0 e1 ⊢
    have hMb : 0 ≤ M ∧ M ≤ 1000 := by omega
    have hMm' := Lib.hid e1
    clear hM e1
    go_enter Tryz.func32, Tryz.ntmps32
    go_wp2_with fail
    go_loopw [12] (fun i wr => ∃ (j : Nat), j ≤ N ∧ i = .int .i64 j ∧ Hid (D = decide (SM.hi (SM.dr is j) ≤ m)) ∧ Below w.heap.size w wr) (fun i _ => N - (intOf i).toNat)
    case atStart => exact ⟨0, Nat.zero_le _, rfl, Lib.hid (by rw [SM.dr_zero, ← hD'.out]; simp), hb1⟩
    case round =>
      obtain ⟨j, hj, rfl, hd, hb⟩ := hrel
      clear hb1
      by_cases hlt : j < N
      · obtain ⟨x, hx⟩ := is.at_some j (by rw [hN'.out]; exact hlt)
        obtain ⟨b, o, B, q, rfl, hbl, p0, p1, p2, p3, hd1⟩ := (h.below hb).at_ hx
        have hC := Lib.hid (fun (w' : World) (hb' : Below wr.heap.size wr w') => hP'.out j x hx w' (.slice B x.is.len q) m (hd1.below hb') (by omega))
        rw [← hMm'.out] at hC
        unfold dtv at hC
        have hbx := m_box wr #[.int .i64 x.k, .int .i64 x.n, .string ⟨x.s.toArray⟩, .slice B x.is.len q] 24
        have hmx := Lib.hid (hi_dr_max hx m)
        clear hx hd1
        obtain ⟨r, hr⟩ : ∃ r, decide (SM.hi x.is + 1 ≤ m) = r := ⟨_, rfl⟩
        rw [hr] at hC
        have hr' := Lib.hid hr
        clear hr
        cases r with
        | false =>
          go_wp2_with (go_at_call 32; refine (hC.out _ hbx).mono ?_; rintro e w5 ⟨rfl, hb5⟩)
          go_ret
          refine ⟨?_, hb.trans ((hbx.trans (hb5.mono hbx.size)).mono hb.size)⟩
          have h1 := of_decide_eq_false hr'.out
          have : D = false := by
            rw [hd.out]
            exact decide_eq_false (fun hh => h1 (hmx.out.1 hh).1)
          rw [this]
          rfl
        | true =>
          go_wp2_with (go_at_call 32; refine (hC.out _ hbx).mono ?_; rintro e w5 ⟨rfl, hb5⟩)
          go_roundw
          case rel =>
            refine ⟨j + 1, by omega, by go_num, Lib.hid ?_, hb.trans ((hbx.trans (hb5.mono hbx.size)).mono hb.size)⟩
            have h1 := of_decide_eq_true hr'.out
            rw [hd.out]
            congr 1
            exact propext ⟨fun hh => (hmx.out.1 hh).2, fun hh => hmx.out.2 ⟨h1, hh⟩⟩
          case measure => simp [intOf]; omega
      · obtain rfl : j = N := by omega
        have : D = true := by
          rw [hd.out, SM.dr_end is j (by rw [hN'.out]; exact Nat.le_refl _)]
          simp [SM.hi]
        subst this
        go_wp2_with fail
        go_ret
        exact ⟨rfl, hb⟩
theorem within_any (x : RM.Dm) : WithinOk x := RM.Dl.all_of WithinOk within_step (.one x) 0 x (by cases x; rfl)
end Go.Proofs.YtbomodendobnkaaGreat
