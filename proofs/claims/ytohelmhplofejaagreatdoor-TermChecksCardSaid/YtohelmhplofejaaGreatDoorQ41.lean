/- The reference of layer 10: may a datum be quoted; is a term small? -/
import Derived.Test.YtohelmhplofejaaGreatDoorQ40
import Derived.Test.YtohelmhplofejaaGreatDoorQ25
import Derived.Test.YtohelmhplofejaaGreatDoorQ38
import Derived.Test.YtohelmhplofejaaGreatDoorQ13
import Derived.Deep.Cut
import Derived.Deep.CutRange
import Derived.Deep.CutBlock
namespace Go.Proofs.YtohelmhplofejaaGreatDoor
open Go.ChangeShapes Go.WideShapes Go.ChangeAt Go.RowKit Go.Deep
open TM (Tl Tm)

set_option maxRecDepth 100000 in
set_option maxHeartbeats 2000000 in
theorem quoted10_any (x : RM.Dm) (w : World) (v : Value) (h : In w v x.is) : Calls Tryz.prog 49 #[dtv x v] w fun e w' => e = .returned (.bool (TM.quo x)) ∧ Went w w' := by
  obtain ⟨A, c, rfl⟩ := h.read
  have hR := Lib.hid (fun (w' : World) (hb : Below w.heap.size w w') => rright_any x w' _ (h.below hb))
  obtain ⟨F, hF⟩ : ∃ F, TM.quo x = F := ⟨_, rfl⟩
  rw [hF]
  unfold TM.quo at hF
  unfold dtv at hR ⊢
  generalize SM.okd x = ok at hR hF
  obtain ⟨N, hN⟩ : ∃ N, x.is.len = N := ⟨_, rfl⟩
  rw [hN] at hR hF ⊢
  obtain ⟨k, hk⟩ : ∃ k, x.k = k := ⟨_, rfl⟩
  obtain ⟨n, hn⟩ : ∃ n, x.n = n := ⟨_, rfl⟩
  obtain ⟨s, hs⟩ : ∃ s, x.s = s := ⟨_, rfl⟩
  rw [hk, hn, hs] at hR hF ⊢
  clear hk hn hs hN h
  have hb0 : Below w.heap.size w (w.alloc (.cells #[.int .i64 k, .int .i64 n, .string ⟨s.toArray⟩, .slice A N c] 25)) := (Below.refl _ w).alloc (Nat.le_refl _) _
  by_cases h0 : k = 0
  · subst h0
    rw [if_pos rfl] at hF
    have hF' := Lib.hid hF
    clear hF hR
    by_cases hs : s = []
    · subst hs
      by_cases h1 : n = 0 <;> by_cases h2 : n = 1 <;> by_cases h3 : N = 0
      all_goals
        first
          | (exfalso; omega)
          | (go_enter Tryz.func49, Tryz.ntmps49
             go_wp2_with fail
             go_ret
             exact ⟨by rw [← hF'.out]; simp [h1, h2, h3], went_box _ _ _⟩)
    · obtain ⟨e1, e2, e3⟩ := str_ne hs
      have hs' := Lib.hid hs
      clear hs
      have q1 : ((⟨s.toArray⟩ : ByteArray).toList == (⟨#[]⟩ : ByteArray).toList) = false := e1
      by_cases h1 : n = 0 <;> by_cases h2 : n = 1
      all_goals
        first
          | (exfalso; omega)
          | (go_enter Tryz.func49, Tryz.ntmps49
             go_wp2_with fail
             go_ret
             exact ⟨by rw [← hF'.out]; simp [hs'.out], went_box _ _ _⟩)
  · rw [if_neg h0] at hF
    subst hF
    go_enter Tryz.func49, Tryz.ntmps49
    go_wp2_with (
      go_at_call 76
      refine (hR.out _ hb0).mono ?_
      rintro e w5 ⟨rfl, hb5⟩)
    go_ret
    exact ⟨rfl, hb0.trans (hb5.mono hb0.size)⟩

namespace TM
def sdl : Tl → Bool
  | .nil => true
  | .cons _ _ _ ps d ks r => SM.small d && decide (ps.length ≤ 200) && sdl ks && sdl r
def sd1 (t : Tm) : Bool := SM.small t.d && decide (t.ps.length ≤ 200) && sdl t.ks
def smt (t : Tm) : Bool := decide (hi t.ks + 1 ≤ 260) && decide (sz t.ks + 1 < 5000) && sd1 t
theorem sdl_at {d : Tl} {i : Nat} {x : Tm} (h : d.at_ i = some x) : sdl (d.dr i) = (sd1 x && sdl (d.dr (i + 1))) := by rw [Tl.dr_at d i x h]; rfl
theorem sdl_in : ∀ {d : Tl} {i : Nat} {x : Tm}, sdl d = true → d.at_ i = some x → sd1 x = true
  | .nil, i, x, _, h => by simp [Tl.at_] at h
  | .cons k n s ps d ks r, 0, x, hr, h => by
    simp only [Tl.at_, Option.some.injEq] at h
    subst h
    simp only [sdl, Bool.and_eq_true] at hr
    simp only [sd1, Bool.and_eq_true]
    exact hr.1
  | .cons k n s ps d ks r, i + 1, x, hr, h => by
    simp only [sdl, Bool.and_eq_true] at hr
    exact sdl_in hr.2 (show r.at_ i = some x from h)
theorem sdl_prs : ∀ {d : Tl}, sdl d = true → (prs d).length ≤ 200 * sz d
  | .nil, _ => by simp [prs, sz]
  | .cons k n s ps d ks r, h => by
    simp only [sdl, Bool.and_eq_true, decide_eq_true_eq] at h
    have h2 := sdl_prs h.1.2
    have h3 := sdl_prs h.2
    simp only [prs, sz, List.length_append]
    omega
theorem smt_prs {t : Tm} (h : smt t = true) : (t.ps ++ prs t.ks).length ≤ 1000000 := by
  simp only [smt, sd1, Bool.and_eq_true, decide_eq_true_eq] at h
  have := sdl_prs h.2.2
  rw [List.length_append]
  omega
end TM
def SmOk (t : Tm) : Prop := ∀ (w : World) (vp vi vk : Value), TmIn w t vp vi vk → Calls Tryz.prog 26 #[tmv t vp vi vk] w fun e w' => e = .returned (.bool (TM.sd1 t)) ∧ Went w w'
set_option maxRecDepth 100000 in
set_option maxHeartbeats 4000000 in
theorem sm_step (k n : Int) (s : List UInt8) (ps : List Int) (d : RM.Dm) (ks : Tl) (hR : ∀ i x, ks.at_ i = some x → SmOk x) : SmOk ⟨k, n, s, ps, d, ks⟩ := by
  intro w vp vi vk h
  obtain ⟨P3, p3, rfl⟩ := h.p.read
  obtain ⟨I7, q7, rfl⟩ := h.d.read
  obtain ⟨A1, c1, rfl⟩ := h.k.read
  have hlen := h.k.len
  have hTk := h.k
  have hTd := h.d
  simp only at hlen hTk hTd ⊢
  have hS := Lib.hid (fun (w' : World) (hb : Below w.heap.size w w') => small_any d w' _ (hTd.below hb))
  obtain ⟨N, hN⟩ : ∃ N, ks.len = N := ⟨_, rfl⟩
  obtain ⟨L3, hL3⟩ : ∃ x, ps.length = x := ⟨_, rfl⟩
  obtain ⟨L7, hL7⟩ : ∃ x, d.is.len = x := ⟨_, rfl⟩
  obtain ⟨F, hF⟩ : ∃ F, TM.sd1 ⟨k, n, s, ps, d, ks⟩ = F := ⟨_, rfl⟩
  rw [hF]
  unfold TM.sd1 at hF
  simp only [hL3] at hF
  unfold tmv
  unfold dtv at hS
  simp only
  rw [hN] at hlen hTk ⊢
  rw [hL7] at hS
  rw [hL3, hL7]
  have hN' := Lib.hid hN
  have hR' := Lib.hid hR
  have hL := Lies.made w 28 #[.int .i64 k, .int .i64 n, .string ⟨s.toArray⟩, .slice P3 L3 p3, .int .i64 d.k, .int .i64 d.n, .string ⟨d.s.toArray⟩, .slice I7 L7 q7, .slice A1 N c1]
  have hba : Below w.heap.size w (w.alloc (.cells #[.int .i64 k, .int .i64 n, .string ⟨s.toArray⟩, .slice P3 L3 p3, .int .i64 d.k, .int .i64 d.n, .string ⟨d.s.toArray⟩, .slice I7 L7 q7, .slice A1 N c1] 28)) := (Below.refl _ w).alloc (Nat.le_refl _) _
  generalize SM.small d = sb at hS hF
  clear hN hR hL3 hL7 h hTd
  cases sb
  · obtain rfl : F = false := by rw [← hF]; simp
    clear hF hL hTk
    go_enter Tryz.func26, Tryz.ntmps26
    go_wp2_with (
      go_at_call 45
      refine (hS.out _ hba).mono ?_
      rintro e w5 ⟨rfl, hb5⟩)
    go_ret
    exact ⟨rfl, hba.trans (Below.mono hb5 hba.size)⟩
  · by_cases h200 : L3 ≤ 200
    · rw [decide_eq_true h200, Bool.true_and, Bool.true_and] at hF
      have hF' := Lib.hid hF
      clear hF
      go_enter Tryz.func26, Tryz.ntmps26
      go_wp2_with (
        go_at_call 45
        refine (hS.out _ hba).mono ?_
        rintro e w5 ⟨rfl, hb5⟩
        have hM5 := hL.below hb5 hL.lt
        have hb6 := hba.trans (Below.mono hb5 hba.size)
        have y3 : w5.cell? ⟨w.heap.size, 3, none⟩ = some (.slice P3 L3 p3) := hM5.cell 3
        clear hb5)
      go_loopw [3] (fun i wr => ∃ (j : Nat), j ≤ N ∧ i = .int .i64 j ∧ Hid (TM.sdl (ks.dr j) = F) ∧ Lies wr w.heap.size 28 [.int .i64 k, .int .i64 n, .string ⟨s.toArray⟩, .slice P3 L3 p3, .int .i64 d.k, .int .i64 d.n, .string ⟨d.s.toArray⟩, .slice I7 L7 q7, .slice A1 N c1] ∧ Below w.heap.size w wr) (fun i _ => N - (intOf i).toNat)
      case atStart => exact ⟨0, by omega, rfl, Lib.hid (by rw [Tl.dr_zero]; exact hF'.out), hM5, hb6⟩
      case round =>
        obtain ⟨j, hj, rfl, hE, hM1, hb⟩ := hrel
        clear hL hba hM5 hb6 y3
        have y8 : wr.cell? ⟨w.heap.size, 8, none⟩ = some (.slice A1 N c1) := hM1.cell 8
        by_cases hlt : j < N
        · obtain ⟨x, hx⟩ := ks.at_some j (by rw [hN'.out]; exact hlt)
          obtain ⟨b, o, P5, p5, I5, q5, K5, r5, rfl, hb0, p0, p1, p2, pp, p4, p55, p6, pi, pk, hT5⟩ := (hTk.below hb).at_ hx
          have hC := Lib.hid (hR'.out j x hx wr _ _ _ hT5)
          have hE2 := hE.out
          rw [TM.sdl_at hx] at hE2
          unfold tmv at hC
          generalize TM.sd1 x = sx at hC hE2
          cases sx
          · obtain rfl : F = false := by rw [← hE2]; simp
            clear hx hT5 hE2
            go_wp2_with (
              go_at_call 26
              refine hC.out.mono ?_
              rintro e w7 ⟨rfl, hb7⟩)
            go_ret
            exact ⟨rfl, hb.trans (Below.mono hb7 hb.size)⟩
          · rw [Bool.true_and] at hE2
            have hE3 := Lib.hid hE2
            clear hx hT5 hE2
            go_wp2_with (
              go_at_call 26
              refine hC.out.mono ?_
              rintro e w7 ⟨rfl, hb7⟩
              have hM7 := hM1.below hb7 hM1.lt
              have hb8 := hb.trans (Below.mono hb7 hb.size)
              clear hb7)
            go_roundw
            case rel => exact ⟨j + 1, by omega, by go_num, hE3, hM7, hb8⟩
            case measure => simp [intOf]; omega
        · obtain rfl : j = N := by omega
          have hE2 := hE.out
          rw [Tl.dr_end ks j (by rw [hN'.out]; exact Nat.le_refl _)] at hE2
          obtain rfl : F = true := hE2.symm
          clear hE2
          go_wp2_with fail
          go_ret
          exact ⟨rfl, hb⟩
    · obtain rfl : F = false := by rw [← hF, decide_eq_false h200]; simp
      clear hF
      go_enter Tryz.func26, Tryz.ntmps26
      go_wp2_with (
        go_at_call 45
        refine (hS.out _ hba).mono ?_
        rintro e w5 ⟨rfl, hb5⟩
        have hM5 := hL.below hb5 hL.lt
        have y3 : w5.cell? ⟨w.heap.size, 3, none⟩ = some (.slice P3 L3 p3) := hM5.cell 3)
      go_ret
      exact ⟨rfl, hba.trans (Below.mono hb5 hba.size)⟩
theorem smallData_any (t : Tm) : SmOk t := Tl.all_one SmOk sm_step t
set_option maxRecDepth 100000 in
set_option maxHeartbeats 2000000 in
theorem tsmall_any (t : Tm) (w : World) (vp vi vk : Value) (h : TmIn w t vp vi vk) : Calls Tryz.prog 8 #[tmv t vp vi vk] w fun e w' => e = .returned (.bool (TM.smt t)) ∧ Went w w' := by
  have hD := Lib.hid (fun (w' : World) (hb : Below w.heap.size w w') => tdepth_any t w' vp vi vk 300 (h.below hb) (by omega) (by omega))
  have hP := Lib.hid (fun (w' : World) (hb : Below w.heap.size w w') => trparts_any t w' vp vi vk (h.below hb))
  have hS := Lib.hid (fun (w' : World) (hb : Below w.heap.size w w') => smallData_any t w' vp vi vk (h.below hb))
  obtain ⟨H, hH⟩ : ∃ H, TM.hi t.ks = H := ⟨_, rfl⟩
  obtain ⟨Z, hZ⟩ : ∃ Z, TM.sz t.ks = Z := ⟨_, rfl⟩
  unfold TM.smt
  rw [hH] at hD ⊢
  rw [hZ] at hP ⊢
  generalize TM.sd1 t = sb at hS ⊢
  unfold TkN at hD
  unfold CtN at hP
  unfold tmv at hD hP hS ⊢
  have hL := Lies.made w 28 #[.int .i64 t.k, .int .i64 t.n, .string ⟨t.s.toArray⟩, vp, .int .i64 t.d.k, .int .i64 t.d.n, .string ⟨t.d.s.toArray⟩, vi, vk]
  have hb1 : Below w.heap.size w (w.alloc (.cells #[.int .i64 t.k, .int .i64 t.n, .string ⟨t.s.toArray⟩, vp, .int .i64 t.d.k, .int .i64 t.d.n, .string ⟨t.d.s.toArray⟩, vi, vk] 28)) := (Below.refl _ w).alloc (Nat.le_refl _) _
  clear hH hZ h
  by_cases h1 : H + 1 ≤ 260
  · by_cases h2 : Z + 1 < 5000
    · rw [decide_eq_true h1, decide_eq_true h2, Bool.true_and, Bool.true_and]
      go_enter Tryz.func8, Tryz.ntmps8
      go_wp2_with (first
        | (go_at_call 25
           refine (hD.out _ hb1).mono ?_
           rintro e w5 ⟨y5, h50, rfl, hb5⟩
           have hy : y5 ≤ 260 := by omega
           clear h50
           have hM := hL.below hb5 hL.lt
           have hb6 : Below w.heap.size w w5 := hb1.trans (Below.mono hb5 hb1.size)
           have y0 := hM.cell 0
           have y1 := hM.cell 1
           have y2 := hM.cell 2
           have y3 := hM.cell 3
           have y4 := hM.cell 4
           have y5 := hM.cell 5
           have y6 := hM.cell 6
           have y7 := hM.cell 7
           have y8 := hM.cell 8
           simp only [List.getElem?_cons_succ, List.getElem?_cons_zero] at y0 y1 y2 y3 y4 y5 y6 y7 y8
           clear hb5)
        | (go_at_call 12
           refine (hP.out _ hb6).mono ?_
           rintro e w7 ⟨y77, h70, rfl, hb7⟩
           have hy : y77 < 5000 := by omega
           clear h70
           have hM2 := hM.below hb7 hM.lt
           have hb8 : Below w.heap.size w w7 := hb6.trans (Below.mono hb7 hb6.size)
           have z0 := hM2.cell 0
           have z1 := hM2.cell 1
           have z2 := hM2.cell 2
           have z3 := hM2.cell 3
           have z4 := hM2.cell 4
           have z5 := hM2.cell 5
           have z6 := hM2.cell 6
           have z7 := hM2.cell 7
           have z8 := hM2.cell 8
           simp only [List.getElem?_cons_succ, List.getElem?_cons_zero] at z0 z1 z2 z3 z4 z5 z6 z7 z8
           clear hb7)
        | (go_at_call 26
           refine (hS.out _ hb8).mono ?_
           rintro e w9 ⟨rfl, hb9⟩))
      go_ret
      exact ⟨rfl, hb8.trans (Below.mono hb9 hb8.size)⟩
    · rw [decide_eq_true h1, decide_eq_false h2, Bool.true_and, Bool.false_and]
      go_enter Tryz.func8, Tryz.ntmps8
      go_wp2_with (first
        | (go_at_call 25
           refine (hD.out _ hb1).mono ?_
           rintro e w5 ⟨y5, h50, rfl, hb5⟩
           have hy : y5 ≤ 260 := by omega
           clear h50
           have hM := hL.below hb5 hL.lt
           have hb6 : Below w.heap.size w w5 := hb1.trans (Below.mono hb5 hb1.size)
           have y0 := hM.cell 0
           have y1 := hM.cell 1
           have y2 := hM.cell 2
           have y3 := hM.cell 3
           have y4 := hM.cell 4
           have y5 := hM.cell 5
           have y6 := hM.cell 6
           have y7 := hM.cell 7
           have y8 := hM.cell 8
           simp only [List.getElem?_cons_succ, List.getElem?_cons_zero] at y0 y1 y2 y3 y4 y5 y6 y7 y8
           clear hb5)
        | (go_at_call 12
           refine (hP.out _ hb6).mono ?_
           rintro e w7 ⟨y77, h70, rfl, hb7⟩
           have hy : 5000 ≤ y77 := by omega
           clear h70
           have hb8 : Below w.heap.size w w7 := hb6.trans (Below.mono hb7 hb6.size)))
      go_ret
      exact ⟨rfl, hb8⟩
  · rw [decide_eq_false h1, Bool.false_and, Bool.false_and]
    go_enter Tryz.func8, Tryz.ntmps8
    go_wp2_with (
      go_at_call 25
      refine (hD.out _ hb1).mono ?_
      rintro e w5 ⟨y5, h50, rfl, hb5⟩
      have hy : 260 < y5 := by omega
      clear h50)
    go_ret
    exact ⟨rfl, hb1.trans (Below.mono hb5 hb1.size)⟩
end Go.Proofs.YtohelmhplofejaaGreatDoor

/- The reference of layer 10: right, a term where some locals are bound. -/
namespace Go.Proofs.YtohelmhplofejaaGreatDoor
open Go.ChangeShapes Go.WideShapes Go.ChangeAt Go.RowKit Go.Deep
open TM (Tl Tm)

namespace TM
theorem fit_bool (bd : List Int) (k n : Int) (s : List UInt8) (ps : List Int) (d : RM.Dm) (ks : Tl) (N L3 : Nat) (hN : ks.len = N) (hL : ps.length = L3) :
    fit bd ⟨k, n, s, ps, d, ks⟩ = if k = 1 then ((N : Int) == 0) && s.isEmpty && ((L3 : Int) == 0) && (n == 0) && quo d
      else if k = 2 then ((N : Int) == 0) && s.isEmpty && ((L3 : Int) == 0) && bd.contains n && nod d
      else if k = 3 then ((N : Int) == 0) && ((L3 : Int) == 0) && (n == 0) && LM.sym s && nod d
      else if k = 4 then ((N : Int) == 1) && s.isEmpty && ((L3 : Int) == 0) && bd.contains n && nod d
      else if k = 5 ∨ k = 6 then ((N : Int) == 1) && ((L3 : Int) == 0) && (n == 0) && LM.sym s && nod d
      else if k = 7 then (((N : Int) == 2) || ((N : Int) == 3)) && s.isEmpty && ((L3 : Int) == 0) && (n == 0) && nod d
      else if k = 8 then ((N : Int) == 1) && s.isEmpty && decide ((L3 : Int) ≤ 24) && ((n == 0) || ((n == 1) && !((L3 : Int) == 0))) && nod d
      else if k = 9 then decide (1 ≤ (N : Int)) && s.isEmpty && ((L3 : Int) == 0) && (n == 0) && nod d
      else if k = 10 then decide (1 ≤ (N : Int)) && decide ((N : Int) ≤ 29) && s.isEmpty && ((L3 : Int) == 0) && (n == 0) && nod d
      else false := by
  have aN : ∀ m : Nat, decide (ks.len = m) = ((N : Int) == (m : Int)) := fun m => by
    rw [hN, Bool.eq_iff_iff]; simp; omega
  have a0 := aN 0
  have a1 := aN 1
  have a2 := aN 2
  have a3 := aN 3
  have a6 : decide (s = []) = s.isEmpty := by cases s <;> simp
  have a8 : decide (ps = []) = ((L3 : Int) == 0) := by
    rw [← hL, Bool.eq_iff_iff]
    cases ps <;> simp <;> omega
  have a9 : ∀ m : Int, decide (n = m) = (n == m) := fun m => by rw [Bool.eq_iff_iff]; simp
  have aL : decide (ps.length ≤ 24) = decide ((L3 : Int) ≤ 24) := by
    rw [hL]; exact decide_eq_decide.2 (by omega)
  have b1 : decide (1 ≤ ks.len) = decide (1 ≤ (N : Int)) := by rw [hN]; exact decide_eq_decide.2 (by omega)
  have b2 : decide (ks.len ≤ 29) = decide ((N : Int) ≤ 29) := by rw [hN]; exact decide_eq_decide.2 (by omega)
  unfold fit
  simp only [a0, a1, a2, a3, a6, a8, a9, aL, b1, b2]
  rfl
theorem fit_params {bd : List Int} {t : Tm} (h : fit bd t = true) (hk : ¬ t.k = 8) : t.ps = [] := by
  unfold fit at h
  by_cases h1 : t.k = 1
  · rw [if_pos h1] at h; simp at h; exact h.1.1.2
  rw [if_neg h1] at h
  by_cases h2 : t.k = 2
  · rw [if_pos h2] at h; simp at h; exact h.1.1.2
  rw [if_neg h2] at h
  by_cases h3 : t.k = 3
  · rw [if_pos h3] at h; simp at h; exact h.1.1.1.2
  rw [if_neg h3] at h
  by_cases h4 : t.k = 4
  · rw [if_pos h4] at h; simp at h; exact h.1.1.2
  rw [if_neg h4] at h
  by_cases h5 : t.k = 5 ∨ t.k = 6
  · rw [if_pos h5] at h; simp at h; exact h.1.1.1.2
  rw [if_neg h5] at h
  by_cases h7 : t.k = 7
  · rw [if_pos h7] at h; simp at h; exact h.1.1.2
  rw [if_neg h7, if_neg hk] at h
  by_cases h9 : t.k = 9
  · rw [if_pos h9] at h; simp at h; exact h.1.1.2
  rw [if_neg h9] at h
  by_cases h10 : t.k = 10
  · rw [if_pos h10] at h; simp at h; exact h.1.1.2
  rw [if_neg h10] at h
  simp at h
end TM
def RgOk (t : Tm) : Prop := ∀ (w : World) (vb : Value) (bd : List Int) (vp vi vk : Value), TmIn w t vp vi vk → PIn w vb bd → bd.length + (t.ps ++ TM.prs t.ks).length ≤ 1000000 →
  Calls Tryz.prog 32 #[tmv t vp vi vk, vb] w fun e w' => e = .returned (.bool (TM.ok1 bd t)) ∧ Went w w'
theorem TM.rg_fin {ok dt F : Bool} {bd2 bdp : List Int} {ks : Tl} (h : (ok && dt) = F) (hp : F = true → bd2 = bdp) : (ok && TM.rtl bd2 ks && dt) = (F && TM.rtl bdp ks) := by
  cases F
  · cases ok <;> cases dt <;> simp_all
  · have := hp rfl
    subst this
    cases ok <;> cases dt <;> simp_all
end Go.Proofs.YtohelmhplofejaaGreatDoor
