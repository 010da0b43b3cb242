/- The document's Right, and which data are few enough for a statement: of a whole datum. -/
import Derived.Test.YtpiekdcbjkgipaaGreatQ36
import Derived.Test.YtpiekdcbjkgipaaGreatQ5
import Derived.Test.YtpiekdcbjkgipaaGreatQ24
import Derived.Shelf.Abstract
import Derived.Deep.RegionHeld3
import Derived.Deep.RegionWith
import Derived.Test.YtpiekdcbjkgipaaGreatQ34
import Derived.Test.YtpiekdcbjkgipaaGreatQ23
namespace Go.Proofs.YtpiekdcbjkgipaaGreat
open Go.ChangeShapes Go.WideShapes Go.ChangeAt Go.RowKit

theorem rr_any (x : RM.Dm) : RrOk x := RM.Dl.all_of RrOk rr_step (.one x) 0 x (by cases x; rfl)
def SM.small (x : RM.Dm) : Bool := decide (SM.hi x.is + 1 ≤ 90) && decide (SM.sz x.is + 1 < 5000)
set_option maxRecDepth 100000 in
set_option maxHeartbeats 2000000 in
theorem rright_any (x : RM.Dm) (w : World) (v : Value) (h : In w v x.is) : Calls Tryz.prog 66 #[dtv x v] w fun e w' => e = .returned (.bool (SM.okd x)) ∧ Went w w' := by
  obtain ⟨A, c, rfl⟩ := h.read
  obtain ⟨Z, hZ⟩ : ∃ Z, SM.sz x.is = Z := ⟨_, rfl⟩
  obtain ⟨H, hH⟩ : ∃ H, SM.hi x.is = H := ⟨_, rfl⟩
  obtain ⟨G, hG⟩ : ∃ G, (SM.kd x.k x.n x.s x.is && SM.rgt x.is) = G := ⟨_, rfl⟩
  have hD := Lib.hid (fun (w' : World) (hb : Below w.heap.size w w') => hi_any x w' (.slice A x.is.len c) 70 (h.below hb) (by omega) (by omega))
  have hC := Lib.hid (fun (w' : World) (hb : Below w.heap.size w w') (hf : (H : Int) ≤ 100000) => rparts_any x w' (.slice A x.is.len c) (h.below hb) (by rw [hH]; exact hf))
  have hR := Lib.hid (fun (w' : World) (hb : Below w.heap.size w w') (hf : (H : Int) + 1 ≤ 64) => rr_any x w' (.slice A x.is.len c) 64 (h.below hb) (by rw [hH]; exact hf) (by omega))
  rw [hG] at hR
  rw [hZ] at hC
  rw [hH] at hD
  unfold SM.okd
  rw [hZ, hG, hH]
  clear hZ hG hH h
  unfold dtv at hC hR hD ⊢
  obtain ⟨N, hN⟩ : ∃ N, x.is.len = N := ⟨_, rfl⟩
  rw [hN] at hC hR hD ⊢
  clear hN
  have hL := Lies.made w 25 #[.int .i64 x.k, .int .i64 x.n, .string ⟨x.s.toArray⟩, .slice A N c]
  have hb0 : Below w.heap.size w (w.alloc (.cells #[.int .i64 x.k, .int .i64 x.n, .string ⟨x.s.toArray⟩, .slice A N c] 25)) := went_box _ _ _
  by_cases h1 : H + 1 ≤ 64
  · by_cases h2 : Z + 1 ≤ 4000
    · rw [decide_eq_true h1, decide_eq_true h2, Bool.true_and, Bool.true_and]
      go_enter Tryz.func66, Tryz.ntmps66
      go_wp2_with (first
        | (go_at_call 61
           refine (hD.out _ hb0).mono ?_
           rintro e w5 ⟨y5, h50, rfl, hb5⟩
           have hy : y5 ≤ 64 := by omega
           clear h50
           have hM := hL.below hb5 hL.lt
           have hb6 : Below w.heap.size w w5 := hb0.trans (hb5.mono (by simp))
           have y0 := hM.cell 0
           have y1 := hM.cell 1
           have y2 := hM.cell 2
           have y3 := hM.cell 3
           simp only [List.getElem?_cons_succ, List.getElem?_cons_zero] at y0 y1 y2 y3
           clear hL hb0 hb5)
        | (go_at_call 62
           refine (hC.out _ hb6 (by omega)).mono ?_
           rintro e w7 ⟨y7, h70, rfl, hb7⟩
           have hy : y7 ≤ 4000 := by omega
           clear h70
           have hM2 := hM.below hb7 hM.lt
           have hb8 : Below w.heap.size w w7 := hb6.trans (hb7.mono hb6.size)
           have y0 := hM2.cell 0
           have y1 := hM2.cell 1
           have y2 := hM2.cell 2
           have y3 := hM2.cell 3
           simp only [List.getElem?_cons_succ, List.getElem?_cons_zero] at y0 y1 y2 y3
           clear hM hM2 hb7 hb6)
        | (go_at_call 79
           refine (hR.out _ hb8 (by omega)).mono ?_
           rintro e w9 ⟨rfl, hb9⟩))
      go_ret
      exact ⟨rfl, hb8.trans (hb9.mono hb8.size)⟩
    · rw [decide_eq_true h1, decide_eq_false h2, Bool.false_and, Bool.false_and]
      go_enter Tryz.func66, Tryz.ntmps66
      go_wp2_with (first
        | (go_at_call 61
           refine (hD.out _ hb0).mono ?_
           rintro e w5 ⟨y5, h50, rfl, hb5⟩
           have hy : y5 ≤ 64 := by omega
           clear h50
           have hM := hL.below hb5 hL.lt
           have hb6 : Below w.heap.size w w5 := hb0.trans (hb5.mono (by simp))
           have y0 := hM.cell 0
           have y1 := hM.cell 1
           have y2 := hM.cell 2
           have y3 := hM.cell 3
           simp only [List.getElem?_cons_succ, List.getElem?_cons_zero] at y0 y1 y2 y3
           clear hL hb0 hb5 hM)
        | (go_at_call 62
           refine (hC.out _ hb6 (by omega)).mono ?_
           rintro e w7 ⟨y7, h70, rfl, hb7⟩
           have hy : 4000 < y7 := by omega
           clear h70))
      go_ret
      exact ⟨rfl, hb6.trans (hb7.mono hb6.size)⟩
  · rw [decide_eq_false h1, Bool.and_false, Bool.false_and]
    go_enter Tryz.func66, Tryz.ntmps66
    go_wp2_with (
      go_at_call 61
      refine (hD.out _ hb0).mono ?_
      rintro e w5 ⟨y5, h50, rfl, hb5⟩
      have hy : 64 < y5 := by omega
      clear h50)
    go_ret
    exact ⟨rfl, hb0.trans (hb5.mono (by simp))⟩
set_option maxRecDepth 100000 in
set_option maxHeartbeats 2000000 in
theorem small_any (x : RM.Dm) (w : World) (v : Value) (h : In w v x.is) : Calls Tryz.prog 41 #[dtv x v] w fun e w' => e = .returned (.bool (SM.small x)) ∧ Went w w' := by
  obtain ⟨A, c, rfl⟩ := h.read
  obtain ⟨Z, hZ⟩ : ∃ Z, SM.sz x.is = Z := ⟨_, rfl⟩
  obtain ⟨H, hH⟩ : ∃ H, SM.hi x.is = H := ⟨_, rfl⟩
  have hD := Lib.hid (fun (w' : World) (hb : Below w.heap.size w w') => hi_any x w' (.slice A x.is.len c) 100 (h.below hb) (by omega) (by omega))
  have hC := Lib.hid (fun (w' : World) (hb : Below w.heap.size w w') (hf : (H : Int) ≤ 100000) => rparts_any x w' (.slice A x.is.len c) (h.below hb) (by rw [hH]; exact hf))
  rw [hZ] at hC
  rw [hH] at hD
  unfold SM.small
  rw [hZ, hH]
  clear hZ hH h
  unfold dtv at hC hD ⊢
  obtain ⟨N, hN⟩ : ∃ N, x.is.len = N := ⟨_, rfl⟩
  rw [hN] at hC hD ⊢
  clear hN
  have hL := Lies.made w 25 #[.int .i64 x.k, .int .i64 x.n, .string ⟨x.s.toArray⟩, .slice A N c]
  have hb0 : Below w.heap.size w (w.alloc (.cells #[.int .i64 x.k, .int .i64 x.n, .string ⟨x.s.toArray⟩, .slice A N c] 25)) := went_box _ _ _
  by_cases h1 : H + 1 ≤ 90
  · rw [decide_eq_true h1, Bool.true_and]
    go_enter Tryz.func41, Tryz.ntmps41
    go_wp2_with (first
      | (go_at_call 61
         refine (hD.out _ hb0).mono ?_
         rintro e w5 ⟨y5, h50, rfl, hb5⟩
         have hy : y5 ≤ 90 := by omega
         clear h50
         have hM := hL.below hb5 hL.lt
         have hb6 : Below w.heap.size w w5 := hb0.trans (hb5.mono (by simp))
         have y0 := hM.cell 0
         have y1 := hM.cell 1
         have y2 := hM.cell 2
         have y3 := hM.cell 3
         simp only [List.getElem?_cons_succ, List.getElem?_cons_zero] at y0 y1 y2 y3
         clear hL hb0 hb5 hM)
      | (go_at_call 62
         refine (hC.out _ hb6 (by omega)).mono ?_
         rintro e w7 ⟨y7, h70, rfl, hb7⟩
         have h70' := Lib.hid h70
         clear h70))
    go_ret
    exact ⟨ret_b (by have h70 := h70'.out; rw [Bool.eq_iff_iff]; simp; omega), hb6.trans (hb7.mono hb6.size)⟩
  · rw [decide_eq_false h1, Bool.false_and]
    go_enter Tryz.func41, Tryz.ntmps41
    go_wp2_with (
      go_at_call 61
      refine (hD.out _ hb0).mono ?_
      rintro e w5 ⟨y5, h50, rfl, hb5⟩
      have hy : 90 < y5 := by omega
      clear h50)
    go_ret
    exact ⟨rfl, hb0.trans (hb5.mono (by simp))⟩
end Go.Proofs.YtpiekdcbjkgipaaGreat

/- Package term: are two data the same, all through? The library's EqualFunc over data; the reference's Same. -/
namespace Go.Proofs.YtpiekdcbjkgipaaGreat
open Go.ChangeShapes Go.WideShapes Go.ChangeAt Go.RowKit Go.Deep

theorem str_ne {a b : List UInt8} (h : ¬ a = b) : ((⟨a.toArray⟩ : ByteArray).toList == (⟨b.toArray⟩ : ByteArray).toList) = false ∧ ¬ (⟨a.toArray⟩ : ByteArray).toList = (⟨b.toArray⟩ : ByteArray).toList ∧ ((⟨a.toArray⟩ : ByteArray).toList != (⟨b.toArray⟩ : ByteArray).toList) = true := by
  have e : ∀ l : List UInt8, (⟨l.toArray⟩ : ByteArray).toList = l := fun l => by rw [ByteArray.toList_eq]
  rw [e, e]
  exact ⟨by simpa using h, h, by simpa using h⟩
def BoolIff (p : Prop) (w : World) (e : Ending) (w' : World) : Prop := ∃ r : Bool, e = .returned (.bool r) ∧ (r = true ↔ p) ∧ Went w w'
theorem SM.dr_eq {a b : RM.Dl} {j : Nat} {x y : RM.Dm} (hx : a.at_ j = some x) (hy : b.at_ j = some y) : SM.dr a j = SM.dr b j ↔ (x = y ∧ SM.dr a (j + 1) = SM.dr b (j + 1)) := by
  rw [SM.dr_at a j x hx, SM.dr_at b j y hy]
  obtain ⟨k, n, s, is⟩ := x
  obtain ⟨k2, n2, s2, is2⟩ := y
  simp only [RM.Dl.cons.injEq, RM.Dm.mk.injEq]
  constructor
  · rintro ⟨h1, h2, h3, h4, h5⟩; exact ⟨⟨h1, h2, h3, h4⟩, h5⟩
  · rintro ⟨⟨h1, h2, h3, h4⟩, h5⟩; exact ⟨h1, h2, h3, h4, h5⟩
end Go.Proofs.YtpiekdcbjkgipaaGreat

/- The reference of layer 10: may a datum be quoted; is a term small? -/
namespace Go.Proofs.YtpiekdcbjkgipaaGreat
open Go.ChangeShapes Go.WideShapes Go.ChangeAt Go.RowKit Go.Deep
open TM (Tl Tm)

set_option maxRecDepth 100000 in
set_option maxHeartbeats 2000000 in
theorem quoted10_any (x : RM.Dm) (w : World) (v : Value) (h : In w v x.is) : Calls Tryz.prog 47 #[dtv x v] w fun e w' => e = .returned (.bool (TM.quo x)) ∧ Went w w' := by
  obtain ⟨A, c, rfl⟩ := h.read
  have hR := Lib.hid (fun (w' : World) (hb : Below w.heap.size w w') => rright_any x w' _ (h.below hb))
  obtain ⟨F, hF⟩ : ∃ F, TM.quo x = F := ⟨_, rfl⟩
  rw [hF]
  unfold TM.quo at hF
  unfold dtv at hR ⊢
  generalize SM.okd x = ok at hR hF
  obtain ⟨N, hN⟩ : ∃ N, x.is.len = N := ⟨_, rfl⟩
  rw [hN] at hR hF ⊢
  obtain ⟨k, hk⟩ : ∃ k, x.k = k := ⟨_, rfl⟩
  obtain ⟨n, hn⟩ : ∃ n, x.n = n := ⟨_, rfl⟩
  obtain ⟨s, hs⟩ : ∃ s, x.s = s := ⟨_, rfl⟩
  rw [hk, hn, hs] at hR hF ⊢
  clear hk hn hs hN h
  have hb0 : Below w.heap.size w (w.alloc (.cells #[.int .i64 k, .int .i64 n, .string ⟨s.toArray⟩, .slice A N c] 25)) := (Below.refl _ w).alloc (Nat.le_refl _) _
  by_cases h0 : k = 0
  · subst h0
    rw [if_pos rfl] at hF
    have hF' := Lib.hid hF
    clear hF hR
    by_cases hs : s = []
    · subst hs
      by_cases h1 : n = 0 <;> by_cases h2 : n = 1 <;> by_cases h3 : N = 0
      all_goals
        first
          | (exfalso; omega)
          | (go_enter Tryz.func47, Tryz.ntmps47
             go_wp2_with fail
             go_ret
             exact ⟨by rw [← hF'.out]; simp [h1, h2, h3], went_box _ _ _⟩)
    · obtain ⟨e1, e2, e3⟩ := str_ne hs
      have hs' := Lib.hid hs
      clear hs
      have q1 : ((⟨s.toArray⟩ : ByteArray).toList == (⟨#[]⟩ : ByteArray).toList) = false := e1
      by_cases h1 : n = 0 <;> by_cases h2 : n = 1
      all_goals
        first
          | (exfalso; omega)
          | (go_enter Tryz.func47, Tryz.ntmps47
             go_wp2_with fail
             go_ret
             exact ⟨by rw [← hF'.out]; simp [hs'.out], went_box _ _ _⟩)
  · rw [if_neg h0] at hF
    subst hF
    go_enter Tryz.func47, Tryz.ntmps47
    go_wp2_with (
      go_at_call 66
      refine (hR.out _ hb0).mono ?_
      rintro e w5 ⟨rfl, hb5⟩)
    go_ret
    exact ⟨rfl, hb0.trans (hb5.mono hb0.size)⟩

namespace TM
def sdl : Tl → Bool
  | .nil => true
  | .cons _ _ _ ps d ks r => SM.small d && decide (ps.length ≤ 200) && sdl ks && sdl r
def sd1 (t : Tm) : Bool := SM.small t.d && decide (t.ps.length ≤ 200) && sdl t.ks
def smt (t : Tm) : Bool := decide (hi t.ks + 1 ≤ 260) && decide (sz t.ks + 1 < 5000) && sd1 t
theorem sdl_at {d : Tl} {i : Nat} {x : Tm} (h : d.at_ i = some x) : sdl (d.dr i) = (sd1 x && sdl (d.dr (i + 1))) := by rw [Tl.dr_at d i x h]; rfl
theorem sdl_in : ∀ {d : Tl} {i : Nat} {x : Tm}, sdl d = true → d.at_ i = some x → sd1 x = true
  | .nil, i, x, _, h => by simp [Tl.at_] at h
  | .cons k n s ps d ks r, 0, x, hr, h => by
    simp only [Tl.at_, Option.some.injEq] at h
    subst h
    simp only [sdl, Bool.and_eq_true] at hr
    simp only [sd1, Bool.and_eq_true]
    exact hr.1
  | .cons k n s ps d ks r, i + 1, x, hr, h => by
    simp only [sdl, Bool.and_eq_true] at hr
    exact sdl_in hr.2 (show r.at_ i = some x from h)
theorem sdl_prs : ∀ {d : Tl}, sdl d = true → (prs d).length ≤ 200 * sz d
  | .nil, _ => by simp [prs, sz]
  | .cons k n s ps d ks r, h => by
    simp only [sdl, Bool.and_eq_true, decide_eq_true_eq] at h
    have h2 := sdl_prs h.1.2
    have h3 := sdl_prs h.2
    simp only [prs, sz, List.length_append]
    omega
theorem smt_prs {t : Tm} (h : smt t = true) : (t.ps ++ prs t.ks).length ≤ 1000000 := by
  simp only [smt, sd1, Bool.and_eq_true, decide_eq_true_eq] at h
  have := sdl_prs h.2.2
  rw [List.length_append]
  omega
end TM
def SmOk (t : Tm) : Prop := ∀ (w : World) (vp vi vk : Value), TmIn w t vp vi vk → Calls Tryz.prog 21 #[tmv t vp vi vk] w fun e w' => e = .returned (.bool (TM.sd1 t)) ∧ Went w w'
set_option maxRecDepth 100000 in
set_option maxHeartbeats 4000000 in
theorem sm_step (k n : Int) (s : List UInt8) (ps : List Int) (d : RM.Dm) (ks : Tl) (hR : ∀ i x, ks.at_ i = some x → SmOk x) : SmOk ⟨k, n, s, ps, d, ks⟩ := by
  intro w vp vi vk h
  obtain ⟨P3, p3, rfl⟩ := h.p.read
  obtain ⟨I7, q7, rfl⟩ := h.d.read
  obtain ⟨A1, c1, rfl⟩ := h.k.read
  have hlen := h.k.len
  have hTk := h.k
  have hTd := h.d
  simp only at hlen hTk hTd ⊢
  have hS := Lib.hid (fun (w' : World) (hb : Below w.heap.size w w') => small_any d w' _ (hTd.below hb))
  obtain ⟨N, hN⟩ : ∃ N, ks.len = N := ⟨_, rfl⟩
  obtain ⟨L3, hL3⟩ : ∃ x, ps.length = x := ⟨_, rfl⟩
  obtain ⟨L7, hL7⟩ : ∃ x, d.is.len = x := ⟨_, rfl⟩
  obtain ⟨F, hF⟩ : ∃ F, TM.sd1 ⟨k, n, s, ps, d, ks⟩ = F := ⟨_, rfl⟩
  rw [hF]
  unfold TM.sd1 at hF
  simp only [hL3] at hF
  unfold tmv
  unfold dtv at hS
  simp only
  rw [hN] at hlen hTk ⊢
  rw [hL7] at hS
  rw [hL3, hL7]
  have hN' := Lib.hid hN
  have hR' := Lib.hid hR
  have hL := Lies.made w 28 #[.int .i64 k, .int .i64 n, .string ⟨s.toArray⟩, .slice P3 L3 p3, .int .i64 d.k, .int .i64 d.n, .string ⟨d.s.toArray⟩, .slice I7 L7 q7, .slice A1 N c1]
  have hba : Below w.heap.size w (w.alloc (.cells #[.int .i64 k, .int .i64 n, .string ⟨s.toArray⟩, .slice P3 L3 p3, .int .i64 d.k, .int .i64 d.n, .string ⟨d.s.toArray⟩, .slice I7 L7 q7, .slice A1 N c1] 28)) := (Below.refl _ w).alloc (Nat.le_refl _) _
  generalize SM.small d = sb at hS hF
  clear hN hR hL3 hL7 h hTd
  cases sb
  · obtain rfl : F = false := by rw [← hF]; simp
    clear hF hL hTk
    go_enter Tryz.func21, Tryz.ntmps21
    go_wp2_with (
      go_at_call 41
      refine (hS.out _ hba).mono ?_
      rintro e w5 ⟨rfl, hb5⟩)
    go_ret
    exact ⟨rfl, hba.trans (Below.mono hb5 hba.size)⟩
  · by_cases h200 : L3 ≤ 200
    · rw [decide_eq_true h200, Bool.true_and, Bool.true_and] at hF
      have hF' := Lib.hid hF
      clear hF
      go_enter Tryz.func21, Tryz.ntmps21
      go_wp2_with (
        go_at_call 41
        refine (hS.out _ hba).mono ?_
        rintro e w5 ⟨rfl, hb5⟩
        have hM5 := hL.below hb5 hL.lt
        have hb6 := hba.trans (Below.mono hb5 hba.size)
        have y3 : w5.cell? ⟨w.heap.size, 3, none⟩ = some (.slice P3 L3 p3) := hM5.cell 3
        clear hb5)
      go_loopw [3] (fun i wr => ∃ (j : Nat), j ≤ N ∧ i = .int .i64 j ∧ Hid (TM.sdl (ks.dr j) = F) ∧ Lies wr w.heap.size 28 [.int .i64 k, .int .i64 n, .string ⟨s.toArray⟩, .slice P3 L3 p3, .int .i64 d.k, .int .i64 d.n, .string ⟨d.s.toArray⟩, .slice I7 L7 q7, .slice A1 N c1] ∧ Below w.heap.size w wr) (fun i _ => N - (intOf i).toNat)
      case atStart => exact ⟨0, by omega, rfl, Lib.hid (by rw [Tl.dr_zero]; exact hF'.out), hM5, hb6⟩
      case round =>
        obtain ⟨j, hj, rfl, hE, hM1, hb⟩ := hrel
        clear hL hba hM5 hb6 y3
        have y8 : wr.cell? ⟨w.heap.size, 8, none⟩ = some (.slice A1 N c1) := hM1.cell 8
        by_cases hlt : j < N
        · obtain ⟨x, hx⟩ := ks.at_some j (by rw [hN'.out]; exact hlt)
          obtain ⟨b, o, P5, p5, I5, q5, K5, r5, rfl, hb0, p0, p1, p2, pp, p4, p55, p6, pi, pk, hT5⟩ := (hTk.below hb).at_ hx
          have hC := Lib.hid (hR'.out j x hx wr _ _ _ hT5)
          have hE2 := hE.out
          rw [TM.sdl_at hx] at hE2
          unfold tmv at hC
          generalize TM.sd1 x = sx at hC hE2
          cases sx
          · obtain rfl : F = false := by rw [← hE2]; simp
            clear hx hT5 hE2
            go_wp2_with (
              go_at_call 21
              refine hC.out.mono ?_
              rintro e w7 ⟨rfl, hb7⟩)
            go_ret
            exact ⟨rfl, hb.trans (Below.mono hb7 hb.size)⟩
          · rw [Bool.true_and] at hE2
            have hE3 := Lib.hid hE2
            clear hx hT5 hE2
            go_wp2_with (
              go_at_call 21
              refine hC.out.mono ?_
              rintro e w7 ⟨rfl, hb7⟩
              have hM7 := hM1.below hb7 hM1.lt
              have hb8 := hb.trans (Below.mono hb7 hb.size)
              clear hb7)
            go_roundw
            case rel => exact ⟨j + 1, by omega, by go_num, hE3, hM7, hb8⟩
            case measure => simp [intOf]; omega
        · obtain rfl : j = N := by omega
          have hE2 := hE.out
          rw [Tl.dr_end ks j (by rw [hN'.out]; exact Nat.le_refl _)] at hE2
          obtain rfl : F = true := hE2.symm
          clear hE2
          go_wp2_with fail
          go_ret
          exact ⟨rfl, hb⟩
    · obtain rfl : F = false := by rw [← hF, decide_eq_false h200]; simp
      clear hF
      go_enter Tryz.func21, Tryz.ntmps21
      go_wp2_with (
        go_at_call 41
        refine (hS.out _ hba).mono ?_
        rintro e w5 ⟨rfl, hb5⟩
        have hM5 := hL.below hb5 hL.lt
        have y3 : w5.cell? ⟨w.heap.size, 3, none⟩ = some (.slice P3 L3 p3) := hM5.cell 3)
      go_ret
      exact ⟨rfl, hba.trans (Below.mono hb5 hba.size)⟩
theorem smallData_any (t : Tm) : SmOk t := Tl.all_one SmOk sm_step t
set_option maxRecDepth 100000 in
set_option maxHeartbeats 2000000 in
theorem tsmall_any (t : Tm) (w : World) (vp vi vk : Value) (h : TmIn w t vp vi vk) : Calls Tryz.prog 6 #[tmv t vp vi vk] w fun e w' => e = .returned (.bool (TM.smt t)) ∧ Went w w' := by
  have hD := Lib.hid (fun (w' : World) (hb : Below w.heap.size w w') => tdepth_any t w' vp vi vk 300 (h.below hb) (by omega) (by omega))
  have hP := Lib.hid (fun (w' : World) (hb : Below w.heap.size w w') => trparts_any t w' vp vi vk (h.below hb))
  have hS := Lib.hid (fun (w' : World) (hb : Below w.heap.size w w') => smallData_any t w' vp vi vk (h.below hb))
  obtain ⟨H, hH⟩ : ∃ H, TM.hi t.ks = H := ⟨_, rfl⟩
  obtain ⟨Z, hZ⟩ : ∃ Z, TM.sz t.ks = Z := ⟨_, rfl⟩
  unfold TM.smt
  rw [hH] at hD ⊢
  rw [hZ] at hP ⊢
  generalize TM.sd1 t = sb at hS ⊢
  unfold TkN at hD
  unfold CtN at hP
  unfold tmv at hD hP hS ⊢
  have hL := Lies.made w 28 #[.int .i64 t.k, .int .i64 t.n, .string ⟨t.s.toArray⟩, vp, .int .i64 t.d.k, .int .i64 t.d.n, .string ⟨t.d.s.toArray⟩, vi, vk]
  have hb1 : Below w.heap.size w (w.alloc (.cells #[.int .i64 t.k, .int .i64 t.n, .string ⟨t.s.toArray⟩, vp, .int .i64 t.d.k, .int .i64 t.d.n, .string ⟨t.d.s.toArray⟩, vi, vk] 28)) := (Below.refl _ w).alloc (Nat.le_refl _) _
  clear hH hZ h
  by_cases h1 : H + 1 ≤ 260
  · by_cases h2 : Z + 1 < 5000
    · rw [decide_eq_true h1, decide_eq_true h2, Bool.true_and, Bool.true_and]
      go_enter Tryz.func6, Tryz.ntmps6
      go_wp2_with (first
        | (go_at_call 19
           refine (hD.out _ hb1).mono ?_
           rintro e w5 ⟨y5, h50, rfl, hb5⟩
           have hy : y5 ≤ 260 := by omega
           clear h50
           have hM := hL.below hb5 hL.lt
           have hb6 : Below w.heap.size w w5 := hb1.trans (Below.mono hb5 hb1.size)
           have y0 := hM.cell 0
           have y1 := hM.cell 1
           have y2 := hM.cell 2
           have y3 := hM.cell 3
           have y4 := hM.cell 4
           have y5 := hM.cell 5
           have y6 := hM.cell 6
           have y7 := hM.cell 7
           have y8 := hM.cell 8
           simp only [List.getElem?_cons_succ, List.getElem?_cons_zero] at y0 y1 y2 y3 y4 y5 y6 y7 y8
           clear hb5)
        | (go_at_call 20
           refine (hP.out _ hb6).mono ?_
           rintro e w7 ⟨y77, h70, rfl, hb7⟩
           have hy : y77 < 5000 := by omega
           clear h70
           have hM2 := hM.below hb7 hM.lt
           have hb8 : Below w.heap.size w w7 := hb6.trans (Below.mono hb7 hb6.size)
           have z0 := hM2.cell 0
           have z1 := hM2.cell 1
           have z2 := hM2.cell 2
           have z3 := hM2.cell 3
           have z4 := hM2.cell 4
           have z5 := hM2.cell 5
           have z6 := hM2.cell 6
           have z7 := hM2.cell 7
           have z8 := hM2.cell 8
           simp only [List.getElem?_cons_succ, List.getElem?_cons_zero] at z0 z1 z2 z3 z4 z5 z6 z7 z8
           clear hb7)
        | (go_at_call 21
           refine (hS.out _ hb8).mono ?_
           rintro e w9 ⟨rfl, hb9⟩))
      go_ret
      exact ⟨rfl, hb8.trans (Below.mono hb9 hb8.size)⟩
    · rw [decide_eq_true h1, decide_eq_false h2, Bool.true_and, Bool.false_and]
      go_enter Tryz.func6, Tryz.ntmps6
      go_wp2_with (first
        | (go_at_call 19
           refine (hD.out _ hb1).mono ?_
           rintro e w5 ⟨y5, h50, rfl, hb5⟩
           have hy : y5 ≤ 260 := by omega
           clear h50
           have hM := hL.below hb5 hL.lt
           have hb6 : Below w.heap.size w w5 := hb1.trans (Below.mono hb5 hb1.size)
           have y0 := hM.cell 0
           have y1 := hM.cell 1
           have y2 := hM.cell 2
           have y3 := hM.cell 3
           have y4 := hM.cell 4
           have y5 := hM.cell 5
           have y6 := hM.cell 6
           have y7 := hM.cell 7
           have y8 := hM.cell 8
           simp only [List.getElem?_cons_succ, List.getElem?_cons_zero] at y0 y1 y2 y3 y4 y5 y6 y7 y8
           clear hb5)
        | (go_at_call 20
           refine (hP.out _ hb6).mono ?_
           rintro e w7 ⟨y77, h70, rfl, hb7⟩
           have hy : 5000 ≤ y77 := by omega
           clear h70
           have hb8 : Below w.heap.size w w7 := hb6.trans (Below.mono hb7 hb6.size)))
      go_ret
      exact ⟨rfl, hb8⟩
  · rw [decide_eq_false h1, Bool.false_and, Bool.false_and]
    go_enter Tryz.func6, Tryz.ntmps6
    go_wp2_with (
      go_at_call 19
      refine (hD.out _ hb1).mono ?_
      rintro e w5 ⟨y5, h50, rfl, hb5⟩
      have hy : 260 < y5 := by omega
      clear h50)
    go_ret
    exact ⟨rfl, hb1.trans (Below.mono hb5 hb1.size)⟩
end Go.Proofs.YtpiekdcbjkgipaaGreat

/- What Alpha answers is small, and its numbers are bounded. -/
namespace Go.Proofs.YtpiekdcbjkgipaaGreat
open Go.RowKit
open TM (Tl Tm)

theorem TM.pl_b64 {l : List Int} (h : l.length ≤ 1000000) (n : Int) : b64 (TM.pl l n) := by
  unfold b64
  cases hc : l.contains n
  · rw [TM.pl_none hc]; omega
  · have := TM.pl_some hc; omega
theorem TM.sdl_nm (l : List Int) : ∀ d : Tl, TM.sdl (TM.nmt l d) = TM.sdl d
  | .nil => rfl
  | .cons k n s ps d ks r => by simp only [TM.nmt, TM.sdl, List.length_map]; rw [TM.sdl_nm l ks, TM.sdl_nm l r]
theorem TM.sd1_alpha (t : Tm) : TM.sd1 (TM.alpha t) = TM.sd1 t := by
  show (SM.small t.d && decide ((t.ps.map _).length ≤ 200) && TM.sdl (TM.nmt _ t.ks)) = _
  rw [TM.sdl_nm, List.length_map]; rfl
theorem TBd.nm {l : List Int} (hl : l.length ≤ 1000000) : ∀ {d : Tl}, TBd d → TBd (TM.nmt l d)
  | .nil, _ => trivial
  | .cons k n s ps d ks r, ⟨h1, h2, h3, h4, h5, h6, h7, h8⟩ => by
    refine ⟨h1, ?_, ?_, h4, h5, h6, TBd.nm hl h7, TBd.nm hl h8⟩
    · split
      · exact TM.pl_b64 hl _
      · exact h2
    · intro p hp
      simp only [List.mem_map] at hp
      obtain ⟨a, _, rfl⟩ := hp
      exact TM.pl_b64 hl a
theorem TmBd.alpha {t : Tm} (h : TmBd t) (hl : (t.ps ++ TM.prs t.ks).length ≤ 1000000) : TmBd (TM.alpha t) := by
  refine ⟨h.k, ?_, ?_, h.dk, h.dn, h.d, TBd.nm hl h.ks⟩
  · show b64 (if t.k = 2 ∨ t.k = 4 then TM.pl _ t.n else t.n)
    split
    · exact TM.pl_b64 hl _
    · exact h.n
  · intro p hp
    have hp' : p ∈ t.ps.map (TM.pl (t.ps ++ TM.prs t.ks)) := hp
    simp only [List.mem_map] at hp'
    obtain ⟨a, _, rfl⟩ := hp'
    exact TM.pl_b64 hl a
end Go.Proofs.YtpiekdcbjkgipaaGreat

/- Package term: are two terms the same, all through? The library's Equal over ints, EqualFunc over terms. -/
namespace Go.Proofs.YtpiekdcbjkgipaaGreat
open Go.ChangeShapes Go.WideShapes Go.ChangeAt Go.RowKit Go.Deep
open TM (Tl Tm)

theorem TM.dr_eq {a b : Tl} {j : Nat} {x y : Tm} (hx : a.at_ j = some x) (hy : b.at_ j = some y) : Tl.dr a j = Tl.dr b j ↔ (x = y ∧ Tl.dr a (j + 1) = Tl.dr b (j + 1)) := by
  rw [Tl.dr_at a j x hx, Tl.dr_at b j y hy]
  obtain ⟨k, n, s, ps, d, is⟩ := x
  obtain ⟨k2, n2, s2, ps2, d2, is2⟩ := y
  simp only [Tl.cons.injEq, Tm.mk.injEq]
  constructor
  · rintro ⟨h1, h2, h3, h4, h5, h6, h7⟩; exact ⟨⟨h1, h2, h3, h4, h5, h6⟩, h7⟩
  · rintro ⟨⟨h1, h2, h3, h4, h5, h6⟩, h7⟩; exact ⟨h1, h2, h3, h4, h5, h6, h7⟩
end Go.Proofs.YtpiekdcbjkgipaaGreat
