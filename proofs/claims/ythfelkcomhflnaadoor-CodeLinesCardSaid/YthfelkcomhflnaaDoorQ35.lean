/- The document's Right, and which data are few enough for a statement: of a whole datum. -/
import Derived.Test.YthfelkcomhflnaaDoorQ34
import Derived.Test.YthfelkcomhflnaaDoorQ32
namespace Go.Proofs.YthfelkcomhflnaaDoor
open Go.ChangeShapes Go.WideShapes Go.ChangeAt Go.RowKit

theorem rr_any (x : RM.Dm) : RrOk x := RM.Dl.all_of RrOk rr_step (.one x) 0 x (by cases x; rfl)
def SM.small (x : RM.Dm) : Bool := decide (SM.hi x.is + 1 ≤ 90) && decide (SM.sz x.is + 1 < 5000)
set_option maxRecDepth 100000 in
set_option maxHeartbeats 2000000 in
theorem rright_any (x : RM.Dm) (w : World) (v : Value) (h : In w v x.is) : Calls Tryd.prog 43 #[dtv x v] w fun e w' => e = .returned (.bool (SM.okd x)) ∧ Went w w' := by
  obtain ⟨A, c, rfl⟩ := h.read
  obtain ⟨Z, hZ⟩ : ∃ Z, SM.sz x.is = Z := ⟨_, rfl⟩
  obtain ⟨H, hH⟩ : ∃ H, SM.hi x.is = H := ⟨_, rfl⟩
  obtain ⟨G, hG⟩ : ∃ G, (SM.kd x.k x.n x.s x.is && SM.rgt x.is) = G := ⟨_, rfl⟩
  have hD := Lib.hid (fun (w' : World) (hb : Below w.heap.size w w') => hi_any x w' (.slice A x.is.len c) 70 (h.below hb) (by omega) (by omega))
  have hC := Lib.hid (fun (w' : World) (hb : Below w.heap.size w w') (hf : (H : Int) ≤ 100000) => rparts_any x w' (.slice A x.is.len c) (h.below hb) (by rw [hH]; exact hf))
  have hR := Lib.hid (fun (w' : World) (hb : Below w.heap.size w w') (hf : (H : Int) + 1 ≤ 64) => rr_any x w' (.slice A x.is.len c) 64 (h.below hb) (by rw [hH]; exact hf) (by omega))
  rw [hG] at hR
  rw [hZ] at hC
  rw [hH] at hD
  unfold SM.okd
  rw [hZ, hG, hH]
  clear hZ hG hH h
  unfold dtv at hC hR hD ⊢
  obtain ⟨N, hN⟩ : ∃ N, x.is.len = N := ⟨_, rfl⟩
  rw [hN] at hC hR hD ⊢
  clear hN
  have hL := Lies.made w 42 #[.int .i64 x.k, .int .i64 x.n, .string ⟨x.s.toArray⟩, .slice A N c]
  have hb0 : Below w.heap.size w (w.alloc (.cells #[.int .i64 x.k, .int .i64 x.n, .string ⟨x.s.toArray⟩, .slice A N c] 42)) := went_box _ _ _
  by_cases h1 : H + 1 ≤ 64
  · by_cases h2 : Z + 1 ≤ 4000
    · rw [decide_eq_true h1, decide_eq_true h2, Bool.true_and, Bool.true_and]
      go_enter Tryd.func43, Tryd.ntmps43
      go_wp2_with (first
        | (go_at_call 28
           refine (hD.out _ hb0).mono ?_
           rintro e w5 ⟨y5, h50, rfl, hb5⟩
           have hy : y5 ≤ 64 := by omega
           clear h50
           have hM := hL.below hb5 hL.lt
           have hb6 : Below w.heap.size w w5 := hb0.trans (hb5.mono (by simp))
           have y0 := hM.cell 0
           have y1 := hM.cell 1
           have y2 := hM.cell 2
           have y3 := hM.cell 3
           simp only [List.getElem?_cons_succ, List.getElem?_cons_zero] at y0 y1 y2 y3
           clear hL hb0 hb5)
        | (go_at_call 17
           refine (hC.out _ hb6 (by omega)).mono ?_
           rintro e w7 ⟨y7, h70, rfl, hb7⟩
           have hy : y7 ≤ 4000 := by omega
           clear h70
           have hM2 := hM.below hb7 hM.lt
           have hb8 : Below w.heap.size w w7 := hb6.trans (hb7.mono hb6.size)
           have y0 := hM2.cell 0
           have y1 := hM2.cell 1
           have y2 := hM2.cell 2
           have y3 := hM2.cell 3
           simp only [List.getElem?_cons_succ, List.getElem?_cons_zero] at y0 y1 y2 y3
           clear hM hM2 hb7 hb6)
        | (go_at_call 51
           refine (hR.out _ hb8 (by omega)).mono ?_
           rintro e w9 ⟨rfl, hb9⟩))
      go_ret
      exact ⟨rfl, hb8.trans (hb9.mono hb8.size)⟩
    · rw [decide_eq_true h1, decide_eq_false h2, Bool.false_and, Bool.false_and]
      go_enter Tryd.func43, Tryd.ntmps43
      go_wp2_with (first
        | (go_at_call 28
           refine (hD.out _ hb0).mono ?_
           rintro e w5 ⟨y5, h50, rfl, hb5⟩
           have hy : y5 ≤ 64 := by omega
           clear h50
           have hM := hL.below hb5 hL.lt
           have hb6 : Below w.heap.size w w5 := hb0.trans (hb5.mono (by simp))
           have y0 := hM.cell 0
           have y1 := hM.cell 1
           have y2 := hM.cell 2
           have y3 := hM.cell 3
           simp only [List.getElem?_cons_succ, List.getElem?_cons_zero] at y0 y1 y2 y3
           clear hL hb0 hb5 hM)
        | (go_at_call 17
           refine (hC.out _ hb6 (by omega)).mono ?_
           rintro e w7 ⟨y7, h70, rfl, hb7⟩
           have hy : 4000 < y7 := by omega
           clear h70))
      go_ret
      exact ⟨rfl, hb6.trans (hb7.mono hb6.size)⟩
  · rw [decide_eq_false h1, Bool.and_false, Bool.false_and]
    go_enter Tryd.func43, Tryd.ntmps43
    go_wp2_with (
      go_at_call 28
      refine (hD.out _ hb0).mono ?_
      rintro e w5 ⟨y5, h50, rfl, hb5⟩
      have hy : 64 < y5 := by omega
      clear h50)
    go_ret
    exact ⟨rfl, hb0.trans (hb5.mono (by simp))⟩
set_option maxRecDepth 100000 in
set_option maxHeartbeats 2000000 in
theorem small_any (x : RM.Dm) (w : World) (v : Value) (h : In w v x.is) : Calls Tryd.prog 16 #[dtv x v] w fun e w' => e = .returned (.bool (SM.small x)) ∧ Went w w' := by
  obtain ⟨A, c, rfl⟩ := h.read
  obtain ⟨Z, hZ⟩ : ∃ Z, SM.sz x.is = Z := ⟨_, rfl⟩
  obtain ⟨H, hH⟩ : ∃ H, SM.hi x.is = H := ⟨_, rfl⟩
  have hD := Lib.hid (fun (w' : World) (hb : Below w.heap.size w w') => hi_any x w' (.slice A x.is.len c) 100 (h.below hb) (by omega) (by omega))
  have hC := Lib.hid (fun (w' : World) (hb : Below w.heap.size w w') (hf : (H : Int) ≤ 100000) => rparts_any x w' (.slice A x.is.len c) (h.below hb) (by rw [hH]; exact hf))
  rw [hZ] at hC
  rw [hH] at hD
  unfold SM.small
  rw [hZ, hH]
  clear hZ hH h
  unfold dtv at hC hD ⊢
  obtain ⟨N, hN⟩ : ∃ N, x.is.len = N := ⟨_, rfl⟩
  rw [hN] at hC hD ⊢
  clear hN
  have hL := Lies.made w 42 #[.int .i64 x.k, .int .i64 x.n, .string ⟨x.s.toArray⟩, .slice A N c]
  have hb0 : Below w.heap.size w (w.alloc (.cells #[.int .i64 x.k, .int .i64 x.n, .string ⟨x.s.toArray⟩, .slice A N c] 42)) := went_box _ _ _
  by_cases h1 : H + 1 ≤ 90
  · rw [decide_eq_true h1, Bool.true_and]
    go_enter Tryd.func16, Tryd.ntmps16
    go_wp2_with (first
      | (go_at_call 28
         refine (hD.out _ hb0).mono ?_
         rintro e w5 ⟨y5, h50, rfl, hb5⟩
         have hy : y5 ≤ 90 := by omega
         clear h50
         have hM := hL.below hb5 hL.lt
         have hb6 : Below w.heap.size w w5 := hb0.trans (hb5.mono (by simp))
         have y0 := hM.cell 0
         have y1 := hM.cell 1
         have y2 := hM.cell 2
         have y3 := hM.cell 3
         simp only [List.getElem?_cons_succ, List.getElem?_cons_zero] at y0 y1 y2 y3
         clear hL hb0 hb5 hM)
      | (go_at_call 17
         refine (hC.out _ hb6 (by omega)).mono ?_
         rintro e w7 ⟨y7, h70, rfl, hb7⟩
         have h70' := Lib.hid h70
         clear h70))
    go_ret
    exact ⟨ret_b (by have h70 := h70'.out; rw [Bool.eq_iff_iff]; simp; omega), hb6.trans (hb7.mono hb6.size)⟩
  · rw [decide_eq_false h1, Bool.false_and]
    go_enter Tryd.func16, Tryd.ntmps16
    go_wp2_with (
      go_at_call 28
      refine (hD.out _ hb0).mono ?_
      rintro e w5 ⟨y5, h50, rfl, hb5⟩
      have hy : 90 < y5 := by omega
      clear h50)
    go_ret
    exact ⟨rfl, hb0.trans (hb5.mono (by simp))⟩
end Go.Proofs.YthfelkcomhflnaaDoor

/- The document's own answer: a datum's text. -/
namespace Go.Proofs.YthfelkcomhflnaaDoor
open Go.ChangeShapes Go.WideShapes Go.ChangeAt Go.RowKit

namespace SM
theorem tl_at {p dot f : Bool} {d : RM.Dl} {j : Nat} {x : RM.Dm} (h : d.at_ j = some x) :
    tl p dot f (dr d j) = (if f then [] else [32]) ++ ((if dot && decide (d.len - (j + 1) = 0) then [46, 32] else []) ++ (txt p x ++ tl p dot false (dr d (j + 1)))) := by
  rw [dr_at d j x h, tl, dr_len]; rfl
theorem tl_go {p dot : Bool} {d : RM.Dl} {j N : Nat} {x : RM.Dm} (h : d.at_ j = some x) (hN : d.len = N) (hj : j < N) :
    tl p dot (decide (j = 0)) (dr d j) = (if j = 0 then [] else [32]) ++ ((if dot = true ∧ j + 1 = N then [46, 32] else []) ++ (txt p x ++ tl p dot false (dr d (j + 1)))) := by
  rw [tl_at h, hN]
  congr 1
  · by_cases h0 : j = 0 <;> simp [h0]
  · congr 1
    by_cases h1 : j + 1 = N
    · cases dot <;> simp [h1]
    · have : ¬ N - (j + 1) = 0 := by omega
      cases dot <;> simp [h1, this]
theorem txt_len' (p : Bool) (x : RM.Dm) (h : kd x.k x.n x.s x.is = true) (hr : rgt x.is = true) : (txt p x).length ≤ 1002 + 1010 * sz x.is := by
  have h2 := tl_len p x.is (decide (x.k = 7)) true hr
  have h3 := one_len (p := p) (inner := tl p (decide (x.k = 7)) true x.is) h (kd_short h)
  unfold txt
  omega
theorem kd_kind {k n : Int} {s : List UInt8} {is : RM.Dl} (h : kd k n s is = true) : k = 1 ∨ k = 2 ∨ k = 3 ∨ k = 4 ∨ k = 5 ∨ k = 6 ∨ k = 7 ∨ k = 8 := by
  apply Classical.byContradiction
  intro hk
  unfold kd at h
  rw [if_neg (by omega), if_neg (by omega), if_neg (by omega), if_neg (by omega), if_neg (by omega), if_neg (by omega), if_neg (by omega)] at h
  cases h
theorem kd_n1 {n : Int} {s : List UInt8} {is : RM.Dl} (h : kd 1 n s is = true) : -1152921504606846976 ≤ n ∧ n ≤ 1152921504606846975 := by simp [kd] at h; exact h.2
theorem kd_n2 {n : Int} {s : List UInt8} {is : RM.Dl} (h : kd 2 n s is = true) : n = 0 ∨ n = 1 := by simp [kd] at h; exact h.2
theorem kd_n3 {n : Int} {s : List UInt8} {is : RM.Dl} (h : kd 3 n s is = true) : 0 ≤ n ∧ n ≤ 255 := by simp [kd] at h; exact h.2
theorem sz_dr : ∀ (d : RM.Dl) (i : Nat), sz (dr d i) ≤ sz d
  | .nil, i => by cases i <;> exact Nat.le_refl _
  | .cons k n s is r, 0 => Nat.le_refl _
  | .cons k n s is r, i + 1 => by have := sz_dr r i; show sz (dr r i) ≤ sz is + 1 + sz r; omega
end SM
end Go.Proofs.YthfelkcomhflnaaDoor
