/- The document's Right, and which data are few enough for a statement: of a whole datum. -/
import Derived.Test.YtpiekdcbjkgipaaGreatDoorQ19
import Derived.Test.YtpiekdcbjkgipaaGreatDoorQ17
namespace Go.Proofs.YtpiekdcbjkgipaaGreatDoor
open Go.ChangeShapes Go.WideShapes Go.ChangeAt Go.RowKit

theorem rr_any (x : RM.Dm) : RrOk x := RM.Dl.all_of RrOk rr_step (.one x) 0 x (by cases x; rfl)
def SM.small (x : RM.Dm) : Bool := decide (SM.hi x.is + 1 ≤ 90) && decide (SM.sz x.is + 1 < 5000)
set_option maxRecDepth 100000 in
set_option maxHeartbeats 2000000 in
theorem rright_any (x : RM.Dm) (w : World) (v : Value) (h : In w v x.is) : Calls Tryz.prog 76 #[dtv x v] w fun e w' => e = .returned (.bool (SM.okd x)) ∧ Went w w' := by
  obtain ⟨A, c, rfl⟩ := h.read
  obtain ⟨Z, hZ⟩ : ∃ Z, SM.sz x.is = Z := ⟨_, rfl⟩
  obtain ⟨H, hH⟩ : ∃ H, SM.hi x.is = H := ⟨_, rfl⟩
  obtain ⟨G, hG⟩ : ∃ G, (SM.kd x.k x.n x.s x.is && SM.rgt x.is) = G := ⟨_, rfl⟩
  have hD := Lib.hid (fun (w' : World) (hb : Below w.heap.size w w') => hi_any x w' (.slice A x.is.len c) 70 (h.below hb) (by omega) (by omega))
  have hC := Lib.hid (fun (w' : World) (hb : Below w.heap.size w w') (hf : (H : Int) ≤ 100000) => rparts_any x w' (.slice A x.is.len c) (h.below hb) (by rw [hH]; exact hf))
  have hR := Lib.hid (fun (w' : World) (hb : Below w.heap.size w w') (hf : (H : Int) + 1 ≤ 64) => rr_any x w' (.slice A x.is.len c) 64 (h.below hb) (by rw [hH]; exact hf) (by omega))
  rw [hG] at hR
  rw [hZ] at hC
  rw [hH] at hD
  unfold SM.okd
  rw [hZ, hG, hH]
  clear hZ hG hH h
  unfold dtv at hC hR hD ⊢
  obtain ⟨N, hN⟩ : ∃ N, x.is.len = N := ⟨_, rfl⟩
  rw [hN] at hC hR hD ⊢
  clear hN
  have hL := Lies.made w 25 #[.int .i64 x.k, .int .i64 x.n, .string ⟨x.s.toArray⟩, .slice A N c]
  have hb0 : Below w.heap.size w (w.alloc (.cells #[.int .i64 x.k, .int .i64 x.n, .string ⟨x.s.toArray⟩, .slice A N c] 25)) := went_box _ _ _
  by_cases h1 : H + 1 ≤ 64
  · by_cases h2 : Z + 1 ≤ 4000
    · rw [decide_eq_true h1, decide_eq_true h2, Bool.true_and, Bool.true_and]
      go_enter Tryz.func76, Tryz.ntmps76
      go_wp2_with (first
        | (go_at_call 70
           refine (hD.out _ hb0).mono ?_
           rintro e w5 ⟨y5, h50, rfl, hb5⟩
           have hy : y5 ≤ 64 := by omega
           clear h50
           have hM := hL.below hb5 hL.lt
           have hb6 : Below w.heap.size w w5 := hb0.trans (hb5.mono (by simp))
           have y0 := hM.cell 0
           have y1 := hM.cell 1
           have y2 := hM.cell 2
           have y3 := hM.cell 3
           simp only [List.getElem?_cons_succ, List.getElem?_cons_zero] at y0 y1 y2 y3
           clear hL hb0 hb5)
        | (go_at_call 71
           refine (hC.out _ hb6 (by omega)).mono ?_
           rintro e w7 ⟨y7, h70, rfl, hb7⟩
           have hy : y7 ≤ 4000 := by omega
           clear h70
           have hM2 := hM.below hb7 hM.lt
           have hb8 : Below w.heap.size w w7 := hb6.trans (hb7.mono hb6.size)
           have y0 := hM2.cell 0
           have y1 := hM2.cell 1
           have y2 := hM2.cell 2
           have y3 := hM2.cell 3
           simp only [List.getElem?_cons_succ, List.getElem?_cons_zero] at y0 y1 y2 y3
           clear hM hM2 hb7 hb6)
        | (go_at_call 103
           refine (hR.out _ hb8 (by omega)).mono ?_
           rintro e w9 ⟨rfl, hb9⟩))
      go_ret
      exact ⟨rfl, hb8.trans (hb9.mono hb8.size)⟩
    · rw [decide_eq_true h1, decide_eq_false h2, Bool.false_and, Bool.false_and]
      go_enter Tryz.func76, Tryz.ntmps76
      go_wp2_with (first
        | (go_at_call 70
           refine (hD.out _ hb0).mono ?_
           rintro e w5 ⟨y5, h50, rfl, hb5⟩
           have hy : y5 ≤ 64 := by omega
           clear h50
           have hM := hL.below hb5 hL.lt
           have hb6 : Below w.heap.size w w5 := hb0.trans (hb5.mono (by simp))
           have y0 := hM.cell 0
           have y1 := hM.cell 1
           have y2 := hM.cell 2
           have y3 := hM.cell 3
           simp only [List.getElem?_cons_succ, List.getElem?_cons_zero] at y0 y1 y2 y3
           clear hL hb0 hb5 hM)
        | (go_at_call 71
           refine (hC.out _ hb6 (by omega)).mono ?_
           rintro e w7 ⟨y7, h70, rfl, hb7⟩
           have hy : 4000 < y7 := by omega
           clear h70))
      go_ret
      exact ⟨rfl, hb6.trans (hb7.mono hb6.size)⟩
  · rw [decide_eq_false h1, Bool.and_false, Bool.false_and]
    go_enter Tryz.func76, Tryz.ntmps76
    go_wp2_with (
      go_at_call 70
      refine (hD.out _ hb0).mono ?_
      rintro e w5 ⟨y5, h50, rfl, hb5⟩
      have hy : 64 < y5 := by omega
      clear h50)
    go_ret
    exact ⟨rfl, hb0.trans (hb5.mono (by simp))⟩
set_option maxRecDepth 100000 in
set_option maxHeartbeats 2000000 in
theorem small_any (x : RM.Dm) (w : World) (v : Value) (h : In w v x.is) : Calls Tryz.prog 45 #[dtv x v] w fun e w' => e = .returned (.bool (SM.small x)) ∧ Went w w' := by
  obtain ⟨A, c, rfl⟩ := h.read
  obtain ⟨Z, hZ⟩ : ∃ Z, SM.sz x.is = Z := ⟨_, rfl⟩
  obtain ⟨H, hH⟩ : ∃ H, SM.hi x.is = H := ⟨_, rfl⟩
  have hD := Lib.hid (fun (w' : World) (hb : Below w.heap.size w w') => hi_any x w' (.slice A x.is.len c) 100 (h.below hb) (by omega) (by omega))
  have hC := Lib.hid (fun (w' : World) (hb : Below w.heap.size w w') (hf : (H : Int) ≤ 100000) => rparts_any x w' (.slice A x.is.len c) (h.below hb) (by rw [hH]; exact hf))
  rw [hZ] at hC
  rw [hH] at hD
  unfold SM.small
  rw [hZ, hH]
  clear hZ hH h
  unfold dtv at hC hD ⊢
  obtain ⟨N, hN⟩ : ∃ N, x.is.len = N := ⟨_, rfl⟩
  rw [hN] at hC hD ⊢
  clear hN
  have hL := Lies.made w 25 #[.int .i64 x.k, .int .i64 x.n, .string ⟨x.s.toArray⟩, .slice A N c]
  have hb0 : Below w.heap.size w (w.alloc (.cells #[.int .i64 x.k, .int .i64 x.n, .string ⟨x.s.toArray⟩, .slice A N c] 25)) := went_box _ _ _
  by_cases h1 : H + 1 ≤ 90
  · rw [decide_eq_true h1, Bool.true_and]
    go_enter Tryz.func45, Tryz.ntmps45
    go_wp2_with (first
      | (go_at_call 70
         refine (hD.out _ hb0).mono ?_
         rintro e w5 ⟨y5, h50, rfl, hb5⟩
         have hy : y5 ≤ 90 := by omega
         clear h50
         have hM := hL.below hb5 hL.lt
         have hb6 : Below w.heap.size w w5 := hb0.trans (hb5.mono (by simp))
         have y0 := hM.cell 0
         have y1 := hM.cell 1
         have y2 := hM.cell 2
         have y3 := hM.cell 3
         simp only [List.getElem?_cons_succ, List.getElem?_cons_zero] at y0 y1 y2 y3
         clear hL hb0 hb5 hM)
      | (go_at_call 71
         refine (hC.out _ hb6 (by omega)).mono ?_
         rintro e w7 ⟨y7, h70, rfl, hb7⟩
         have h70' := Lib.hid h70
         clear h70))
    go_ret
    exact ⟨ret_b (by have h70 := h70'.out; rw [Bool.eq_iff_iff]; simp; omega), hb6.trans (hb7.mono hb6.size)⟩
  · rw [decide_eq_false h1, Bool.false_and]
    go_enter Tryz.func45, Tryz.ntmps45
    go_wp2_with (
      go_at_call 70
      refine (hD.out _ hb0).mono ?_
      rintro e w5 ⟨y5, h50, rfl, hb5⟩
      have hy : 90 < y5 := by omega
      clear h50)
    go_ret
    exact ⟨rfl, hb0.trans (hb5.mono (by simp))⟩
end Go.Proofs.YtpiekdcbjkgipaaGreatDoor

/- The document's own answer: a datum's text. -/
namespace Go.Proofs.YtpiekdcbjkgipaaGreatDoor
open Go.ChangeShapes Go.WideShapes Go.ChangeAt Go.RowKit

namespace SM
theorem tl_at {p dot f : Bool} {d : RM.Dl} {j : Nat} {x : RM.Dm} (h : d.at_ j = some x) :
    tl p dot f (dr d j) = (if f then [] else [32]) ++ ((if dot && decide (d.len - (j + 1) = 0) then [46, 32] else []) ++ (txt p x ++ tl p dot false (dr d (j + 1)))) := by
  rw [dr_at d j x h, tl, dr_len]; rfl
theorem tl_go {p dot : Bool} {d : RM.Dl} {j N : Nat} {x : RM.Dm} (h : d.at_ j = some x) (hN : d.len = N) (hj : j < N) :
    tl p dot (decide (j = 0)) (dr d j) = (if j = 0 then [] else [32]) ++ ((if dot = true ∧ j + 1 = N then [46, 32] else []) ++ (txt p x ++ tl p dot false (dr d (j + 1)))) := by
  rw [tl_at h, hN]
  congr 1
  · by_cases h0 : j = 0 <;> simp [h0]
  · congr 1
    by_cases h1 : j + 1 = N
    · cases dot <;> simp [h1]
    · have : ¬ N - (j + 1) = 0 := by omega
      cases dot <;> simp [h1, this]
theorem txt_len' (p : Bool) (x : RM.Dm) (h : kd x.k x.n x.s x.is = true) (hr : rgt x.is = true) : (txt p x).length ≤ 1002 + 1010 * sz x.is := by
  have h2 := tl_len p x.is (decide (x.k = 7)) true hr
  have h3 := one_len (p := p) (inner := tl p (decide (x.k = 7)) true x.is) h (kd_short h)
  unfold txt
  omega
theorem kd_kind {k n : Int} {s : List UInt8} {is : RM.Dl} (h : kd k n s is = true) : k = 1 ∨ k = 2 ∨ k = 3 ∨ k = 4 ∨ k = 5 ∨ k = 6 ∨ k = 7 ∨ k = 8 := by
  apply Classical.byContradiction
  intro hk
  unfold kd at h
  rw [if_neg (by omega), if_neg (by omega), if_neg (by omega), if_neg (by omega), if_neg (by omega), if_neg (by omega), if_neg (by omega)] at h
  cases h
theorem kd_n1 {n : Int} {s : List UInt8} {is : RM.Dl} (h : kd 1 n s is = true) : -1152921504606846976 ≤ n ∧ n ≤ 1152921504606846975 := by simp [kd] at h; exact h.2
theorem kd_n2 {n : Int} {s : List UInt8} {is : RM.Dl} (h : kd 2 n s is = true) : n = 0 ∨ n = 1 := by simp [kd] at h; exact h.2
theorem kd_n3 {n : Int} {s : List UInt8} {is : RM.Dl} (h : kd 3 n s is = true) : 0 ≤ n ∧ n ≤ 255 := by simp [kd] at h; exact h.2
theorem sz_dr : ∀ (d : RM.Dl) (i : Nat), sz (dr d i) ≤ sz d
  | .nil, i => by cases i <;> exact Nat.le_refl _
  | .cons k n s is r, 0 => Nat.le_refl _
  | .cons k n s is r, i + 1 => by have := sz_dr r i; show sz (dr r i) ≤ sz is + 1 + sz r; omega
end SM
def RtOk (x : RM.Dm) : Prop := ∀ (w : World) (v : Value) (p : Bool), In w v x.is → SM.kd x.k x.n x.s x.is = true → SM.rgt x.is = true → SM.sz x.is ≤ 5000 →
  Calls Tryz.prog 66 #[dtv x v, .bool p] w fun e w' => (∃ T : ByteArray, e = .returned (.string T) ∧ T.data.toList = SM.txt p x) ∧ Went w w'
set_option maxRecDepth 100000 in
set_option maxHeartbeats 8000000 in
theorem rt_step (k n : Int) (s : List UInt8) (is : RM.Dl) (hP : ∀ i x, is.at_ i = some x → RtOk x) : RtOk ⟨k, n, s, is⟩ := by
  intro w v p h1 hkd hrg hsz
  obtain ⟨A1, c1, rfl⟩ := h1.read
  have hlen := h1.len
  simp only at h1 hlen hkd hrg hsz
  have htx : SM.txt p ⟨k, n, s, is⟩ = SM.one p k n s (SM.tl p (decide (k = 7)) true is) := rfl
  rw [htx]
  clear htx
  unfold dtv
  simp only
  obtain ⟨S, hS⟩ : ∃ S : ByteArray, ⟨s.toArray⟩ = S := ⟨_, rfl⟩
  have hSs : Hid (S.data.toList = s) := Lib.hid (by rw [← hS])
  obtain ⟨N, hN⟩ : ∃ N, is.len = N := ⟨_, rfl⟩
  obtain ⟨Z, hZ⟩ : ∃ Z, SM.sz is = Z := ⟨_, rfl⟩
  rw [hS]
  rw [hN] at h1 hlen ⊢
  rw [hZ] at hsz
  have hN' := Lib.hid hN
  have hZ' := Lib.hid hZ
  have hP' := Lib.hid hP
  have hrg' := Lib.hid hrg
  have hkd' := Lib.hid hkd
  have hk8 := SM.kd_kind hkd
  have hSz : (k = 4 ∨ k = 5) → S.size ≤ 500 := fun h => by
    have := SM.kd_short hkd (by omega) (by omega)
    rwa [← hSs.out, size_len] at this
  clear hN hP hZ hS hrg
  rcases hk8 with rfl | rfl | rfl | rfl | rfl | rfl | rfl | rfl
  · have hn := SM.kd_n1 hkd
    have hR := Lib.hid (rtext_any n (by omega) (by omega))
    clear hkd
    go_enter Tryz.func66, Tryz.ntmps66
    go_wp2_with (go_at_call 96; refine (hR.out _).mono ?_; rintro e w5 ⟨rfl, hb5⟩)
    go_ret
    exact ⟨⟨_, rfl, rfl⟩, (went_alloc _ _).trans hb5⟩
  · have hn := SM.kd_n2 hkd
    clear hkd
    rcases hn with rfl | rfl
    all_goals
      go_enter Tryz.func66, Tryz.ntmps66
      go_wp2_with fail
      go_ret
      exact ⟨⟨_, rfl, rfl⟩, went_alloc _ _⟩
  · have hn := SM.kd_n3 hkd
    clear hkd
    have hu := u8_in hn.1 hn.2
    cases p
    · have hC := Lib.hid (rChar_any n)
      go_enter Tryz.func66, Tryz.ntmps66
      go_wp2_with (go_at_call 97; refine (hC.out _).mono ?_; rintro e w5 ⟨rfl, hb5⟩)
      go_ret
      exact ⟨⟨_, rfl, rfl⟩, (went_alloc _ _).trans hb5⟩
    · have hc := conv_one (w.alloc (.cells #[.int .i64 3, .int .i64 n, .string S, .slice A1 N c1] 25)) n
      rw [show (w.alloc (.cells #[.int .i64 3, .int .i64 n, .string S, .slice A1 N c1] 25)).heap.size = w.heap.size + 1 by simp] at hc
      go_enter Tryz.func66, Tryz.ntmps66
      go_wp2_with fail
      go_ret
      exact ⟨⟨_, rfl, by simp [SM.one, ByteArray.push]⟩, (went_alloc _ _).trans (went_alloc _ _)⟩
  · have hS5 := hSz (.inl rfl)
    clear hkd hSz
    cases p
    · have hC := Lib.hid (fun w => rstr_any w S hS5)
      go_enter Tryz.func66, Tryz.ntmps66
      go_wp2_with (go_at_call 98; refine (hC.out _).mono ?_; rintro e w5 ⟨rfl, hb5⟩)
      go_ret
      exact ⟨⟨_, rfl, by rw [hSs.out]; rfl⟩, (went_alloc _ _).trans hb5⟩
    · go_enter Tryz.func66, Tryz.ntmps66
      go_wp2_with fail
      go_ret
      exact ⟨⟨_, rfl, hSs.out⟩, went_alloc _ _⟩
  · have hS5 := hSz (.inr rfl)
    clear hkd hSz
    go_enter Tryz.func66, Tryz.ntmps66
    go_wp2_with fail
    go_ret
    exact ⟨⟨_, rfl, hSs.out⟩, went_alloc _ _⟩
  · clear hkd hSz
    rw [show decide ((6 : Int) = 7) = false from rfl]
    obtain ⟨G, hG⟩ : ∃ G, [40] ++ SM.tl p false true is = G := ⟨_, rfl⟩
    have hG' := Lib.hid hG
    have hone : Hid (SM.one p 6 n s (SM.tl p false true is) = G ++ [41]) := Lib.hid (by rw [← hG]; rfl)
    have hL := Lies.made w 25 #[.int .i64 6, .int .i64 n, .string S, .slice A1 N c1]
    clear hG
    go_enter Tryz.func66, Tryz.ntmps66
    go_wp2_with fail
    go_loopw [5, 6] (fun sv i wr => ∃ (j R : Nat) (L : ByteArray), j ≤ N ∧ i = .int .i64 j ∧ sv = .string L ∧ Hid (SM.sz (SM.dr is j) = R) ∧ Hid (SM.rgt (SM.dr is j) = true) ∧ Hid (L.data.toList ++ SM.tl p false (decide (j = 0)) (SM.dr is j) = G) ∧ L.size + 1010 * R ≤ 2 + 1010 * Z ∧ Below w.heap.size w wr ∧ Lies wr w.heap.size 25 [.int .i64 6, .int .i64 n, .string S, .slice A1 N c1]) (fun _ i _ => N - (intOf i).toNat)
    case atStart => exact ⟨0, Z, ⟨#[40]⟩, by omega, rfl, rfl, Lib.hid (by rw [SM.dr_zero]; exact hZ'.out), Lib.hid (by rw [SM.dr_zero]; exact hrg'.out), Lib.hid (by rw [SM.dr_zero]; exact hG'.out), by show 1 + 1010 * Z ≤ _; omega, went_alloc _ _, hL⟩
    case round =>
      obtain ⟨j, R, L, hj, rfl, rfl, hR, hrj, hLG, hLs, hb, hM1⟩ := hrel
      clear hL
      have y0 : wr.cell? ⟨w.heap.size, 0, none⟩ = some (.int .i64 6) := hM1.cell 0
      have y3 : wr.cell? ⟨w.heap.size, 3, none⟩ = some (.slice A1 N c1) := hM1.cell 3
      have hRZ : R ≤ Z := by
        have := SM.sz_dr is j
        rw [hR.out, hZ'.out] at this
        exact this
      by_cases hlt : j < N
      · obtain ⟨x, hx⟩ := is.at_some j (by rw [hN'.out]; exact hlt)
        obtain ⟨b, o, B, q, rfl, hbl, p0, p1, p2, p3, hd1⟩ := (h1.below hb).at_ hx
        have hx' := Lib.hid hx
        have hR0 := hR.out
        rw [SM.sz_at hx] at hR0
        have hrj0 := hrj.out
        rw [SM.rgt_at' hx, Bool.and_eq_true, Bool.and_eq_true] at hrj0
        obtain ⟨⟨hk5, hr5⟩, hr6⟩ := hrj0
        have hr6' := Lib.hid hr6
        have htl := Lib.hid (SM.txt_len' p x hk5 hr5)
        obtain ⟨R1, hR1⟩ : ∃ R1, SM.sz (SM.dr is (j + 1)) = R1 := ⟨_, rfl⟩
        obtain ⟨X, hX⟩ : ∃ X, SM.sz x.is = X := ⟨_, rfl⟩
        rw [hR1, hX] at hR0
        rw [hX] at htl
        have hR1' := Lib.hid hR1
        have hC := Lib.hid (hP'.out j x hx wr (.slice B x.is.len q) p hd1 hk5 hr5 (by omega))
        unfold dtv at hC
        obtain ⟨sep, hsep⟩ : ∃ sep : List UInt8, (if j = 0 then [] else [32]) = sep := ⟨_, rfl⟩
        obtain ⟨dt, hdt⟩ : ∃ dt : List UInt8, (if false = true ∧ j + 1 = N then [46, 32] else []) = dt := ⟨_, rfl⟩
        have hG5 : Hid (L.data.toList ++ (sep ++ (dt ++ (SM.txt p x ++ SM.tl p false false (SM.dr is (j + 1))))) = G) := Lib.hid (by
          rw [← hsep, ← hdt, ← SM.tl_go hx hN'.out hlt]; exact hLG.out)
        have hse0 : Hid (j = 0 → sep = []) := Lib.hid (fun h => by rw [← hsep, if_pos h])
        have hse1 : Hid (¬ j = 0 → sep = [32]) := Lib.hid (fun h => by rw [← hsep, if_neg h])
        have hdt0 : Hid (¬ (false = true ∧ j + 1 = N) → dt = []) := Lib.hid (fun h => by rw [← hdt, if_neg h])
        have hdt1 : Hid (false = true ∧ j + 1 = N → dt = [46, 32]) := Lib.hid (fun h => by rw [← hdt, if_pos h])
        clear hx hR1 hX hk5 hr5 hr6 hsep hdt hLG
        by_cases hj0 : j = 0
        · subst hj0
          simp only [Nat.zero_mul, Nat.add_zero] at p0 p1 p2 p3
          go_wp2_with (go_at_call 66; refine hC.out.mono ?_; rintro e w5 ⟨⟨T, rfl, hT⟩, hb5⟩; have hT' := Lib.hid hT; have hTs : T.size ≤ 1002 + 1010 * X := (by rw [← size_len, hT]; exact htl.out); clear hT; have hM3 := hM1.below hb5 hM1.lt; have hb6 : Below w.heap.size w w5 := hb.trans (hb5.mono hb.size); clear hb5 y0 y3 p0 p1 p2 p3)
          go_roundw
          case rel => exact ⟨0 + 1, R1, L ++ T, by omega, by go_num, rfl, hR1', hr6', Lib.hid (by rw [← hG5.out, hse0.out (by first | trivial | omega | (simp; done) | (simp; omega)), hdt0.out (by first | trivial | omega | (simp; done) | (simp; omega)), decide_eq_false (by omega)]; simp [hT'.out]), by rw [ByteArray.size_append]; omega, hb6, hM3⟩
          case measure => simp [intOf]; omega
        · go_wp2_with (go_at_call 66; refine hC.out.mono ?_; rintro e w5 ⟨⟨T, rfl, hT⟩, hb5⟩; have hT' := Lib.hid hT; have hTs : T.size ≤ 1002 + 1010 * X := (by rw [← size_len, hT]; exact htl.out); clear hT; have hM3 := hM1.below hb5 hM1.lt; have hb6 : Below w.heap.size w w5 := hb.trans (hb5.mono hb.size); clear hb5 y0 y3 p0 p1 p2 p3)
          go_roundw
          case rel => exact ⟨j + 1, R1, (L ++ ⟨#[32]⟩) ++ T, by omega, by go_num, rfl, hR1', hr6', Lib.hid (by rw [← hG5.out, hse1.out (by first | trivial | omega | (simp; done) | (simp; omega)), hdt0.out (by first | trivial | omega | (simp; done) | (simp; omega)), decide_eq_false (by omega)]; simp [hT'.out]), by rw [ByteArray.size_append, ByteArray.size_append, show (⟨#[32]⟩ : ByteArray).size = 1 from rfl]; omega, hb6, hM3⟩
          case measure => simp [intOf]; omega
      · obtain rfl : j = N := by omega
        go_wp2_with fail
        go_ret
        have hE := hLG.out
        rw [SM.dr_end is j (by rw [hN'.out]; exact Nat.le_refl _)] at hE
        exact ⟨⟨_, rfl, by rw [hone.out, ← hE]; simp [SM.tl]⟩, hb⟩
  · clear hkd hSz
    rw [show decide ((7 : Int) = 7) = true from rfl]
    obtain ⟨G, hG⟩ : ∃ G, [40] ++ SM.tl p true true is = G := ⟨_, rfl⟩
    have hG' := Lib.hid hG
    have hone : Hid (SM.one p 7 n s (SM.tl p true true is) = G ++ [41]) := Lib.hid (by rw [← hG]; rfl)
    have hL := Lies.made w 25 #[.int .i64 7, .int .i64 n, .string S, .slice A1 N c1]
    clear hG
    go_enter Tryz.func66, Tryz.ntmps66
    go_wp2_with fail
    go_loopw [5, 6] (fun sv i wr => ∃ (j R : Nat) (L : ByteArray), j ≤ N ∧ i = .int .i64 j ∧ sv = .string L ∧ Hid (SM.sz (SM.dr is j) = R) ∧ Hid (SM.rgt (SM.dr is j) = true) ∧ Hid (L.data.toList ++ SM.tl p true (decide (j = 0)) (SM.dr is j) = G) ∧ L.size + 1010 * R ≤ 2 + 1010 * Z ∧ Below w.heap.size w wr ∧ Lies wr w.heap.size 25 [.int .i64 7, .int .i64 n, .string S, .slice A1 N c1]) (fun _ i _ => N - (intOf i).toNat)
    case atStart => exact ⟨0, Z, ⟨#[40]⟩, by omega, rfl, rfl, Lib.hid (by rw [SM.dr_zero]; exact hZ'.out), Lib.hid (by rw [SM.dr_zero]; exact hrg'.out), Lib.hid (by rw [SM.dr_zero]; exact hG'.out), by show 1 + 1010 * Z ≤ _; omega, went_alloc _ _, hL⟩
    case round =>
      obtain ⟨j, R, L, hj, rfl, rfl, hR, hrj, hLG, hLs, hb, hM1⟩ := hrel
      clear hL
      have y0 : wr.cell? ⟨w.heap.size, 0, none⟩ = some (.int .i64 7) := hM1.cell 0
      have y3 : wr.cell? ⟨w.heap.size, 3, none⟩ = some (.slice A1 N c1) := hM1.cell 3
      have hRZ : R ≤ Z := by
        have := SM.sz_dr is j
        rw [hR.out, hZ'.out] at this
        exact this
      by_cases hlt : j < N
      · obtain ⟨x, hx⟩ := is.at_some j (by rw [hN'.out]; exact hlt)
        obtain ⟨b, o, B, q, rfl, hbl, p0, p1, p2, p3, hd1⟩ := (h1.below hb).at_ hx
        have hx' := Lib.hid hx
        have hR0 := hR.out
        rw [SM.sz_at hx] at hR0
        have hrj0 := hrj.out
        rw [SM.rgt_at' hx, Bool.and_eq_true, Bool.and_eq_true] at hrj0
        obtain ⟨⟨hk5, hr5⟩, hr6⟩ := hrj0
        have hr6' := Lib.hid hr6
        have htl := Lib.hid (SM.txt_len' p x hk5 hr5)
        obtain ⟨R1, hR1⟩ : ∃ R1, SM.sz (SM.dr is (j + 1)) = R1 := ⟨_, rfl⟩
        obtain ⟨X, hX⟩ : ∃ X, SM.sz x.is = X := ⟨_, rfl⟩
        rw [hR1, hX] at hR0
        rw [hX] at htl
        have hR1' := Lib.hid hR1
        have hC := Lib.hid (hP'.out j x hx wr (.slice B x.is.len q) p hd1 hk5 hr5 (by omega))
        unfold dtv at hC
        obtain ⟨sep, hsep⟩ : ∃ sep : List UInt8, (if j = 0 then [] else [32]) = sep := ⟨_, rfl⟩
        obtain ⟨dt, hdt⟩ : ∃ dt : List UInt8, (if true = true ∧ j + 1 = N then [46, 32] else []) = dt := ⟨_, rfl⟩
        have hG5 : Hid (L.data.toList ++ (sep ++ (dt ++ (SM.txt p x ++ SM.tl p true false (SM.dr is (j + 1))))) = G) := Lib.hid (by
          rw [← hsep, ← hdt, ← SM.tl_go hx hN'.out hlt]; exact hLG.out)
        have hse0 : Hid (j = 0 → sep = []) := Lib.hid (fun h => by rw [← hsep, if_pos h])
        have hse1 : Hid (¬ j = 0 → sep = [32]) := Lib.hid (fun h => by rw [← hsep, if_neg h])
        have hdt0 : Hid (¬ (true = true ∧ j + 1 = N) → dt = []) := Lib.hid (fun h => by rw [← hdt, if_neg h])
        have hdt1 : Hid (true = true ∧ j + 1 = N → dt = [46, 32]) := Lib.hid (fun h => by rw [← hdt, if_pos h])
        clear hx hR1 hX hk5 hr5 hr6 hsep hdt hLG
        have hw : wrap64 ((N : Int) - 1) = (N : Int) - 1 := by unfold wrap64; omega
        by_cases hj0 : j = 0
        · subst hj0
          simp only [Nat.zero_mul, Nat.add_zero] at p0 p1 p2 p3
          by_cases hjN : N = 1
          · subst hjN
            go_wp2_with (go_at_call 66; refine hC.out.mono ?_; rintro e w5 ⟨⟨T, rfl, hT⟩, hb5⟩; have hT' := Lib.hid hT; have hTs : T.size ≤ 1002 + 1010 * X := (by rw [← size_len, hT]; exact htl.out); clear hT; have hM3 := hM1.below hb5 hM1.lt; have hb6 : Below w.heap.size w w5 := hb.trans (hb5.mono hb.size); clear hb5 y0 y3 p0 p1 p2 p3)
            go_roundw
            case rel => exact ⟨0 + 1, R1, (L ++ ⟨#[46, 32]⟩) ++ T, by omega, by go_num, rfl, hR1', hr6', Lib.hid (by rw [← hG5.out, hse0.out (by first | trivial | omega | (simp; done) | (simp; omega)), hdt1.out (by first | trivial | omega | (simp; done) | (simp; omega)), decide_eq_false (by omega)]; simp [hT'.out]), by rw [ByteArray.size_append, ByteArray.size_append, show (⟨#[46, 32]⟩ : ByteArray).size = 2 from rfl]; omega, hb6, hM3⟩
            case measure => simp [intOf]
          · have hjN1 : ¬ ((0 : Int) = (N : Int) - 1) := by omega
            go_wp2_with (go_at_call 66; refine hC.out.mono ?_; rintro e w5 ⟨⟨T, rfl, hT⟩, hb5⟩; have hT' := Lib.hid hT; have hTs : T.size ≤ 1002 + 1010 * X := (by rw [← size_len, hT]; exact htl.out); clear hT; have hM3 := hM1.below hb5 hM1.lt; have hb6 : Below w.heap.size w w5 := hb.trans (hb5.mono hb.size); clear hb5 y0 y3 p0 p1 p2 p3)
            go_roundw
            case rel => exact ⟨0 + 1, R1, L ++ T, by omega, by go_num, rfl, hR1', hr6', Lib.hid (by rw [← hG5.out, hse0.out (by first | trivial | omega | (simp; done) | (simp; omega)), hdt0.out (by first | trivial | omega | (simp; done) | (simp; omega)), decide_eq_false (by omega)]; simp [hT'.out]), by rw [ByteArray.size_append]; omega, hb6, hM3⟩
            case measure => simp [intOf]; omega
        · by_cases hjN : j + 1 = N
          · have hjN1 : (j : Int) = (N : Int) - 1 := by omega
            have hjb : ((j : Int) == (N : Int) - 1) = true := by simp [hjN1]
            clear hjN1
            go_wp2_with (go_at_call 66; refine hC.out.mono ?_; rintro e w5 ⟨⟨T, rfl, hT⟩, hb5⟩; have hT' := Lib.hid hT; have hTs : T.size ≤ 1002 + 1010 * X := (by rw [← size_len, hT]; exact htl.out); clear hT; have hM3 := hM1.below hb5 hM1.lt; have hb6 : Below w.heap.size w w5 := hb.trans (hb5.mono hb.size); clear hb5 y0 y3 p0 p1 p2 p3)
            go_roundw
            case rel => exact ⟨j + 1, R1, ((L ++ ⟨#[32]⟩) ++ ⟨#[46, 32]⟩) ++ T, by omega, by go_num, rfl, hR1', hr6', Lib.hid (by rw [← hG5.out, hse1.out (by first | trivial | omega | (simp; done) | (simp; omega)), hdt1.out (by first | trivial | omega | (simp; done) | (simp; omega)), decide_eq_false (by omega)]; simp [hT'.out]), by rw [ByteArray.size_append, ByteArray.size_append, ByteArray.size_append, show (⟨#[32]⟩ : ByteArray).size = 1 from rfl, show (⟨#[46, 32]⟩ : ByteArray).size = 2 from rfl]; omega, hb6, hM3⟩
            case measure => simp [intOf]; omega
          · have hjN1 : ¬ ((j : Int) = (N : Int) - 1) := by omega
            go_wp2_with (go_at_call 66; refine hC.out.mono ?_; rintro e w5 ⟨⟨T, rfl, hT⟩, hb5⟩; have hT' := Lib.hid hT; have hTs : T.size ≤ 1002 + 1010 * X := (by rw [← size_len, hT]; exact htl.out); clear hT; have hM3 := hM1.below hb5 hM1.lt; have hb6 : Below w.heap.size w w5 := hb.trans (hb5.mono hb.size); clear hb5 y0 y3 p0 p1 p2 p3)
            go_roundw
            case rel => exact ⟨j + 1, R1, (L ++ ⟨#[32]⟩) ++ T, by omega, by go_num, rfl, hR1', hr6', Lib.hid (by rw [← hG5.out, hse1.out (by first | trivial | omega | (simp; done) | (simp; omega)), hdt0.out (by first | trivial | omega | (simp; done) | (simp; omega)), decide_eq_false (by omega)]; simp [hT'.out]), by rw [ByteArray.size_append, ByteArray.size_append, show (⟨#[32]⟩ : ByteArray).size = 1 from rfl]; omega, hb6, hM3⟩
            case measure => simp [intOf]; omega
      · obtain rfl : j = N := by omega
        go_wp2_with fail
        go_ret
        have hE := hLG.out
        rw [SM.dr_end is j (by rw [hN'.out]; exact Nat.le_refl _)] at hE
        exact ⟨⟨_, rfl, by rw [hone.out, ← hE]; simp [SM.tl]⟩, hb⟩
  · clear hkd hSz
    rw [show decide ((8 : Int) = 7) = false from rfl]
    obtain ⟨G, hG⟩ : ∃ G, [35, 40] ++ SM.tl p false true is = G := ⟨_, rfl⟩
    have hG' := Lib.hid hG
    have hone : Hid (SM.one p 8 n s (SM.tl p false true is) = G ++ [41]) := Lib.hid (by rw [← hG]; rfl)
    have hL := Lies.made w 25 #[.int .i64 8, .int .i64 n, .string S, .slice A1 N c1]
    clear hG
    go_enter Tryz.func66, Tryz.ntmps66
    go_wp2_with fail
    go_loopw [5, 6] (fun sv i wr => ∃ (j R : Nat) (L : ByteArray), j ≤ N ∧ i = .int .i64 j ∧ sv = .string L ∧ Hid (SM.sz (SM.dr is j) = R) ∧ Hid (SM.rgt (SM.dr is j) = true) ∧ Hid (L.data.toList ++ SM.tl p false (decide (j = 0)) (SM.dr is j) = G) ∧ L.size + 1010 * R ≤ 2 + 1010 * Z ∧ Below w.heap.size w wr ∧ Lies wr w.heap.size 25 [.int .i64 8, .int .i64 n, .string S, .slice A1 N c1]) (fun _ i _ => N - (intOf i).toNat)
    case atStart => exact ⟨0, Z, ⟨#[35, 40]⟩, by omega, rfl, rfl, Lib.hid (by rw [SM.dr_zero]; exact hZ'.out), Lib.hid (by rw [SM.dr_zero]; exact hrg'.out), Lib.hid (by rw [SM.dr_zero]; exact hG'.out), by show 2 + 1010 * Z ≤ _; omega, went_alloc _ _, hL⟩
    case round =>
      obtain ⟨j, R, L, hj, rfl, rfl, hR, hrj, hLG, hLs, hb, hM1⟩ := hrel
      clear hL
      have y0 : wr.cell? ⟨w.heap.size, 0, none⟩ = some (.int .i64 8) := hM1.cell 0
      have y3 : wr.cell? ⟨w.heap.size, 3, none⟩ = some (.slice A1 N c1) := hM1.cell 3
      have hRZ : R ≤ Z := by
        have := SM.sz_dr is j
        rw [hR.out, hZ'.out] at this
        exact this
      by_cases hlt : j < N
      · obtain ⟨x, hx⟩ := is.at_some j (by rw [hN'.out]; exact hlt)
        obtain ⟨b, o, B, q, rfl, hbl, p0, p1, p2, p3, hd1⟩ := (h1.below hb).at_ hx
        have hx' := Lib.hid hx
        have hR0 := hR.out
        rw [SM.sz_at hx] at hR0
        have hrj0 := hrj.out
        rw [SM.rgt_at' hx, Bool.and_eq_true, Bool.and_eq_true] at hrj0
        obtain ⟨⟨hk5, hr5⟩, hr6⟩ := hrj0
        have hr6' := Lib.hid hr6
        have htl := Lib.hid (SM.txt_len' p x hk5 hr5)
        obtain ⟨R1, hR1⟩ : ∃ R1, SM.sz (SM.dr is (j + 1)) = R1 := ⟨_, rfl⟩
        obtain ⟨X, hX⟩ : ∃ X, SM.sz x.is = X := ⟨_, rfl⟩
        rw [hR1, hX] at hR0
        rw [hX] at htl
        have hR1' := Lib.hid hR1
        have hC := Lib.hid (hP'.out j x hx wr (.slice B x.is.len q) p hd1 hk5 hr5 (by omega))
        unfold dtv at hC
        obtain ⟨sep, hsep⟩ : ∃ sep : List UInt8, (if j = 0 then [] else [32]) = sep := ⟨_, rfl⟩
        obtain ⟨dt, hdt⟩ : ∃ dt : List UInt8, (if false = true ∧ j + 1 = N then [46, 32] else []) = dt := ⟨_, rfl⟩
        have hG5 : Hid (L.data.toList ++ (sep ++ (dt ++ (SM.txt p x ++ SM.tl p false false (SM.dr is (j + 1))))) = G) := Lib.hid (by
          rw [← hsep, ← hdt, ← SM.tl_go hx hN'.out hlt]; exact hLG.out)
        have hse0 : Hid (j = 0 → sep = []) := Lib.hid (fun h => by rw [← hsep, if_pos h])
        have hse1 : Hid (¬ j = 0 → sep = [32]) := Lib.hid (fun h => by rw [← hsep, if_neg h])
        have hdt0 : Hid (¬ (false = true ∧ j + 1 = N) → dt = []) := Lib.hid (fun h => by rw [← hdt, if_neg h])
        have hdt1 : Hid (false = true ∧ j + 1 = N → dt = [46, 32]) := Lib.hid (fun h => by rw [← hdt, if_pos h])
        clear hx hR1 hX hk5 hr5 hr6 hsep hdt hLG
        by_cases hj0 : j = 0
        · subst hj0
          simp only [Nat.zero_mul, Nat.add_zero] at p0 p1 p2 p3
          go_wp2_with (go_at_call 66; refine hC.out.mono ?_; rintro e w5 ⟨⟨T, rfl, hT⟩, hb5⟩; have hT' := Lib.hid hT; have hTs : T.size ≤ 1002 + 1010 * X := (by rw [← size_len, hT]; exact htl.out); clear hT; have hM3 := hM1.below hb5 hM1.lt; have hb6 : Below w.heap.size w w5 := hb.trans (hb5.mono hb.size); clear hb5 y0 y3 p0 p1 p2 p3)
          go_roundw
          case rel => exact ⟨0 + 1, R1, L ++ T, by omega, by go_num, rfl, hR1', hr6', Lib.hid (by rw [← hG5.out, hse0.out (by first | trivial | omega | (simp; done) | (simp; omega)), hdt0.out (by first | trivial | omega | (simp; done) | (simp; omega)), decide_eq_false (by omega)]; simp [hT'.out]), by rw [ByteArray.size_append]; omega, hb6, hM3⟩
          case measure => simp [intOf]; omega
        · go_wp2_with (go_at_call 66; refine hC.out.mono ?_; rintro e w5 ⟨⟨T, rfl, hT⟩, hb5⟩; have hT' := Lib.hid hT; have hTs : T.size ≤ 1002 + 1010 * X := (by rw [← size_len, hT]; exact htl.out); clear hT; have hM3 := hM1.below hb5 hM1.lt; have hb6 : Below w.heap.size w w5 := hb.trans (hb5.mono hb.size); clear hb5 y0 y3 p0 p1 p2 p3)
          go_roundw
          case rel => exact ⟨j + 1, R1, (L ++ ⟨#[32]⟩) ++ T, by omega, by go_num, rfl, hR1', hr6', Lib.hid (by rw [← hG5.out, hse1.out (by first | trivial | omega | (simp; done) | (simp; omega)), hdt0.out (by first | trivial | omega | (simp; done) | (simp; omega)), decide_eq_false (by omega)]; simp [hT'.out]), by rw [ByteArray.size_append, ByteArray.size_append, show (⟨#[32]⟩ : ByteArray).size = 1 from rfl]; omega, hb6, hM3⟩
          case measure => simp [intOf]; omega
      · obtain rfl : j = N := by omega
        go_wp2_with fail
        go_ret
        have hE := hLG.out
        rw [SM.dr_end is j (by rw [hN'.out]; exact Nat.le_refl _)] at hE
        exact ⟨⟨_, rfl, by rw [hone.out, ← hE]; simp [SM.tl]⟩, hb⟩
theorem rt_any (x : RM.Dm) : RtOk x := RM.Dl.all_of RtOk rt_step (.one x) 0 x (by cases x; rfl)
end Go.Proofs.YtpiekdcbjkgipaaGreatDoor
