/- Package term: Check. -/
import Derived.Test.YtpiekdcbjkgipaaGreatDoorQ16
import Derived.Carry
import Derived.Test.YtpiekdcbjkgipaaGreatDoorQ30
import Derived.Test.YtpiekdcbjkgipaaGreatDoorQ25
import Derived.Test.YtpiekdcbjkgipaaGreatDoorQ5
import Derived.Test.YtpiekdcbjkgipaaGreatDoorQ28
import Derived.Shelf.Abstract
import Derived.Deep.RegionHeld3
import Derived.Deep.RegionWith
namespace Go.Proofs.YtpiekdcbjkgipaaGreatDoor
open Go.ChangeShapes Go.WideShapes Go.ChangeAt Go.RowKit Go.Deep
open TM (Tl Tm)

set_option maxRecDepth 100000 in
set_option maxHeartbeats 2000000 in
theorem tcheck_any (t : Tm) (w : World) (vp vi vk : Value) (hT : TmIn w t vp vi vk) (hB : TmBd t) :
    Calls Tryz.prog 9 #[tmv t vp vi vk] w fun e w' => e = .returned (chv (TM.okt t)) ∧ Went w w' := by
  have hP := Lib.hid (fun (w' : World) (hb : Below w.heap.size w w') => parts_any t vp vi vk w' (hT.below hb))
  have hR := Lib.hid (fun (w' : World) (q : Nat) (hb : Below w.heap.size w w') (hq : w.heap.size ≤ q) (hI : Im w' q 0 (TM.ls [] [])) (hm : TM.sz t.ks + 1 ≤ 4000) => isRight_any t w w' q 0 [] [] 1 vp vi vk hT hB hb hq hI (fun _ h => h) (by omega) (by omega) (by omega))
  obtain ⟨okb, hok⟩ : ∃ okb, TM.okt t = okb := ⟨_, rfl⟩
  rw [hok]
  unfold TM.okt at hok
  obtain ⟨Y, hY⟩ : ∃ Y, min (TM.sz t.ks + 1) 5000 = Y := ⟨_, rfl⟩
  rw [hY] at hP
  unfold tmv at hP hR ⊢
  have hmm := @run_makeMap Tryz.prog
  have hL := Lies.made w 28 #[.int .i64 t.k, .int .i64 t.n, .string ⟨t.s.toArray⟩, vp, .int .i64 t.d.k, .int .i64 t.d.n, .string ⟨t.d.s.toArray⟩, vi, vk]
  have hb1 : Below w.heap.size w (w.alloc (.cells #[.int .i64 t.k, .int .i64 t.n, .string ⟨t.s.toArray⟩, vp, .int .i64 t.d.k, .int .i64 t.d.n, .string ⟨t.d.s.toArray⟩, vi, vk] 28)) := (Below.refl _ w).alloc (Nat.le_refl _) _
  by_cases h4 : TM.sz t.ks + 1 ≤ 4000
  · have hYe : Y ≤ 4000 := by omega
    have hY' := Lib.hid hY
    rw [decide_eq_true h4, Bool.true_and, Bool.and_assoc, Bool.and_comm (TM.frs _ _), show decide (TM.hi t.ks + 1 ≤ 200) = decide (1 + (TM.hi t.ks : Int) ≤ 200) from decide_eq_decide.2 (by omega)] at hok
    have hR1 := Lib.hid (fun (w' : World) (q : Nat) (hb : Below w.heap.size w w') (hq : w.heap.size ≤ q) (hI : Im w' q 0 (TM.ls [] [])) => hR.out w' q hb hq hI h4)
    rw [hok] at hR1
    unfold LocsN at hR1
    clear hR hok hY hT hB h4
    have hls : TM.ls [] [] = fun _ => 0 := by funext x; simp [TM.ls]
    have hls' := Lib.hid hls
    clear hls
    cases okb
    all_goals
      unfold chv
      go_enter Tryz.func9, Tryz.ntmps9
      go_wp2_with (first
        | (go_at_call 11
           refine (hP.out _ hb1).mono ?_
           rintro e w2 ⟨rfl, hb2⟩
           have hb3 := hb1.trans (hb2.mono hb1.size)
           have hL2 := hL.below hb2 hL.lt
           have hL3 := hL2.alloc (.map #[] 0)
           have hlt := hL2.lt
           have z0 := hL2.cell 0
           have z1 := hL2.cell 1
           have z2 := hL2.cell 2
           have z3 := hL2.cell 3
           have z4 := hL2.cell 4
           have z5 := hL2.cell 5
           have z6 := hL2.cell 6
           have z7 := hL2.cell 7
           have z8 := hL2.cell 8
           have y0 := hL3.cell 0
           have y1 := hL3.cell 1
           have y2 := hL3.cell 2
           have y3 := hL3.cell 3
           have y4 := hL3.cell 4
           have y5 := hL3.cell 5
           have y6 := hL3.cell 6
           have y7 := hL3.cell 7
           have y8 := hL3.cell 8
           simp only [List.getElem?_cons_succ, List.getElem?_cons_zero] at z0 z1 z2 z3 z4 z5 z6 z7 z8 y0 y1 y2 y3 y4 y5 y6 y7 y8
           have hI3 : Im (w2.alloc (.map #[] 0)) w2.heap.size 0 (TM.ls [] []) := by rw [hls'.out]; exact Im.made w2
           have hI3' := Lib.hid hI3
           have hsz := Lib.hid hb3.size
           have hb4 := hb3.alloc hsz.out (.map #[] 0)
           clear hb2 hI3)
        | (go_at_call 27
           refine (hR1.out _ _ hb4 hsz.out hI3'.out).mono ?_
           rintro e w5 ⟨rfl, hT5, -⟩
           have hb6 := below_of_turns hb4 hT5 hsz.out))
      go_ret
      exact ⟨rfl, hb6⟩
  · have hYe : 4000 < Y := by omega
    obtain rfl : okb = false := by rw [← hok, decide_eq_false h4]; simp
    clear hR hok hY hT hB h4
    unfold chv
    go_enter Tryz.func9, Tryz.ntmps9
    go_wp2_with (
      go_at_call 11
      refine (hP.out _ hb1).mono ?_
      rintro e w2 ⟨rfl, hb2⟩
      have hb3 := hb1.trans (hb2.mono hb1.size))
    go_ret
    exact ⟨rfl, hb3⟩
end Go.Proofs.YtpiekdcbjkgipaaGreatDoor

/- Package term: Alpha. -/
namespace Go.Proofs.YtpiekdcbjkgipaaGreatDoor
open Go.ChangeShapes Go.WideShapes Go.ChangeAt Go.RowKit Go.Deep
open TM (Tl Tm)

namespace TM
theorem quo_sz {d : RM.Dm} (h : quo d = true) : SM.sz d.is ≤ 5000 := by
  unfold quo at h
  split at h
  · simp only [Bool.and_eq_true, decide_eq_true_eq] at h
    have : d.is = .nil := by
      cases hd : d.is with
      | nil => rfl
      | cons => rw [hd] at h; simp [RM.Dl.len] at h
    rw [this]; simp [SM.sz]
  · unfold SM.okd at h
    simp only [Bool.and_eq_true, decide_eq_true_eq] at h
    omega
theorem nod_sz {d : RM.Dm} (h : nod d = true) : SM.sz d.is ≤ 5000 := by
  unfold nod at h
  simp only [Bool.and_eq_true, decide_eq_true_eq] at h
  have : d.is = .nil := by
    cases hd : d.is with
    | nil => rfl
    | cons => rw [hd] at h; simp [RM.Dl.len] at h
  rw [this]; simp [SM.sz]
theorem fit_data {bd : List Int} {t : Tm} (h : fit bd t = true) : quo t.d = true ∨ nod t.d = true := by
  unfold fit at h
  split at h
  · simp only [Bool.and_eq_true] at h; exact .inl h.2
  repeat
    split at h
    · simp only [Bool.and_eq_true] at h; exact .inr h.2
  · simp at h
theorem fit_sz {bd : List Int} {t : Tm} (h : fit bd t = true) : SM.sz t.d.is ≤ 5000 := (fit_data h).elim quo_sz nod_sz
theorem rtl_dok : ∀ {bd : List Int} {d : Tl}, rtl bd d = true → dok d
  | _, .nil, _ => trivial
  | bd, .cons k n s ps d ks r, h => by
    simp only [rtl, Bool.and_eq_true] at h
    exact ⟨fit_sz h.1.1, rtl_dok h.1.2, rtl_dok h.2⟩
theorem rtl_prs : ∀ {bd : List Int} {d : Tl}, rtl bd d = true → (prs d).length ≤ 24 * sz d
  | _, .nil, _ => by simp [prs, sz]
  | bd, .cons k n s ps d ks r, h => by
    simp only [rtl, Bool.and_eq_true] at h
    have h1 := fit_len h.1.1
    have h2 := rtl_prs h.1.2
    have h3 := rtl_prs h.2
    simp only [prs, sz, List.length_append] at h1 ⊢
    omega
theorem nmt_dok (l : List Int) : ∀ {d : Tl}, dok d → dok (nmt l d)
  | .nil, _ => trivial
  | .cons _ _ _ _ _ _ _, ⟨h1, h2, h3⟩ => ⟨h1, nmt_dok l h2, nmt_dok l h3⟩
theorem nmt_sz (l : List Int) : ∀ d : Tl, sz (nmt l d) = sz d
  | .nil => rfl
  | .cons _ _ _ _ _ ks r => by simp only [nmt, sz]; rw [nmt_sz l ks, nmt_sz l r]
theorem okt_parts {t : Tm} (h : okt t = true) : sz t.ks + 1 ≤ 4000 ∧ hi t.ks + 1 ≤ 200 ∧ frs [] (t.ps ++ prs t.ks) = true ∧ ok1 [] t = true ∧ SM.sz t.d.is ≤ 5000 ∧ dok t.ks ∧ (t.ps ++ prs t.ks).length ≤ 100000 := by
  unfold okt at h
  simp only [Bool.and_eq_true, decide_eq_true_eq] at h
  obtain ⟨⟨⟨h1, h2⟩, h3⟩, h4⟩ := h
  have h5 := h4
  rw [ok1, Bool.and_eq_true] at h5
  have h6 := fit_len h5.1
  have h7 := rtl_prs h5.2
  refine ⟨h1, h2, h3, h4, fit_sz h5.1, rtl_dok h5.2, ?_⟩
  rw [List.length_append]
  omega
end TM
def zerov : Value := .agg #[.int .i64 0, .int .i64 0, .string ⟨#[]⟩, .slice none 0 0, .int .i64 0, .int .i64 0, .string ⟨#[]⟩, .slice none 0 0, .slice none 0 0]
def AlN (t : Tm) (w : World) (e : Ending) (w' : World) : Prop :=
  (TM.okt t = true → ∃ vp vi vk, e = .returned (.tuple #[tmv (TM.alpha t) vp vi vk, .nilIface]) ∧ TmIn w' (TM.alpha t) vp vi vk) ∧ (TM.okt t = false → e = .returned (.tuple #[zerov, .iface 37 (.int .i64 7)])) ∧ Went w w'
set_option maxRecDepth 100000 in
set_option maxHeartbeats 4000000 in
theorem alpha_any (t : Tm) (w : World) (vp vi vk : Value) (hT : TmIn w t vp vi vk) (hB : TmBd t) :
    Calls Tryz.prog 15 #[tmv t vp vi vk] w (AlN t w) := by
  have hC := Lib.hid (fun (w' : World) (hb : Below w.heap.size w w') => tcheck_any t w' vp vi vk (hT.below hb) hB)
  have hmm := @run_makeMap Tryz.prog
  have hL := (Lies.made w 28 #[.int .i64 t.k, .int .i64 t.n, .string ⟨t.s.toArray⟩, vp, .int .i64 t.d.k, .int .i64 t.d.n, .string ⟨t.d.s.toArray⟩, vi, vk]).alloc (.cells #[.int .i64 0, .int .i64 0, .string ⟨#[]⟩, .slice none 0 0, .int .i64 0, .int .i64 0, .string ⟨#[]⟩, .slice none 0 0, .slice none 0 0] 28)
  have hz1 : (w.alloc (.cells #[.int .i64 t.k, .int .i64 t.n, .string ⟨t.s.toArray⟩, vp, .int .i64 t.d.k, .int .i64 t.d.n, .string ⟨t.d.s.toArray⟩, vi, vk] 28)).heap.size = w.heap.size + 1 := by simp
  have hLr := Lies.made (w.alloc (.cells #[.int .i64 t.k, .int .i64 t.n, .string ⟨t.s.toArray⟩, vp, .int .i64 t.d.k, .int .i64 t.d.n, .string ⟨t.d.s.toArray⟩, vi, vk] 28)) 28 #[.int .i64 0, .int .i64 0, .string ⟨#[]⟩, .slice none 0 0, .int .i64 0, .int .i64 0, .string ⟨#[]⟩, .slice none 0 0, .slice none 0 0]
  rw [hz1] at hLr
  have hba : Below w.heap.size w ((w.alloc (.cells #[.int .i64 t.k, .int .i64 t.n, .string ⟨t.s.toArray⟩, vp, .int .i64 t.d.k, .int .i64 t.d.n, .string ⟨t.d.s.toArray⟩, vi, vk] 28)).alloc (.cells #[.int .i64 0, .int .i64 0, .string ⟨#[]⟩, .slice none 0 0, .int .i64 0, .int .i64 0, .string ⟨#[]⟩, .slice none 0 0, .slice none 0 0] 28)) :=
    ((Below.refl _ w).alloc (Nat.le_refl _) _).alloc (by simp) _
  clear hz1
  cases hok : TM.okt t
  · rw [hok] at hC
    have hok' := Lib.hid hok
    unfold chv tmv at hC
    unfold tmv
    clear hok hT hB
    go_enter Tryz.func15, Tryz.ntmps15
    go_wp2_with (
      go_at_call 9
      refine (hC.out _ hba).mono ?_
      rintro e w2 ⟨rfl, hb2⟩
      have hb3 : Below w.heap.size w w2 := hba.trans (Below.mono hb2 (by simp; omega))
      have hMr2 := hLr.below hb2 hLr.lt
      have cz0 := hMr2.cell 0
      have cz1 := hMr2.cell 1
      have cz2 := hMr2.cell 2
      have cz3 := hMr2.cell 3
      have cz4 := hMr2.cell 4
      have cz5 := hMr2.cell 5
      have cz6 := hMr2.cell 6
      have cz7 := hMr2.cell 7
      have cz8 := hMr2.cell 8
      have fz0 := hMr2.free 0
      have fz1 := hMr2.free 1
      have fz2 := hMr2.free 2
      have fz3 := hMr2.free 3
      have fz4 := hMr2.free 4
      have fz5 := hMr2.free 5
      have fz6 := hMr2.free 6
      have fz7 := hMr2.free 7
      have fz8 := hMr2.free 8
      have hlt2 := hMr2.lt
      simp only [List.getElem?_cons_succ, List.getElem?_cons_zero] at cz0 cz1 cz2 cz3 cz4 cz5 cz6 cz7 cz8
      clear hb2)
    have hTz := (Turns.of_below hb3 (fun _ => False)).then (nine_turns (Turns.refl (fun k => k = w.heap.size + 1) w2) (g := w.heap.size + 1) (fun _ => rfl) 0 (.int .i64 0) (.int .i64 0) (.string ⟨#[]⟩) (.slice none 0 0) (.int .i64 0) (.int .i64 0) (.string ⟨#[]⟩) (.slice none 0 0) (.slice none 0 0)) (fun i hi he => by omega)
    have hMz := nine_res hMr2 (w.heap.size + 1) rfl (.int .i64 0) (.int .i64 0) (.string ⟨#[]⟩) (.slice none 0 0) (.int .i64 0) (.int .i64 0) (.string ⟨#[]⟩) (.slice none 0 0) (.slice none 0 0)
    have rz0 := hMz.cell 0
    have rz1 := hMz.cell 1
    have rz2 := hMz.cell 2
    have rz3 := hMz.cell 3
    have rz4 := hMz.cell 4
    have rz5 := hMz.cell 5
    have rz6 := hMz.cell 6
    have rz7 := hMz.cell 7
    have rz8 := hMz.cell 8
    unfold nine at rz0 rz1 rz2 rz3 rz4 rz5 rz6 rz7 rz8
    simp only [List.getElem?_cons_succ, List.getElem?_cons_zero, Nat.zero_add] at rz0 rz1 rz2 rz3 rz4 rz5 rz6 rz7 rz8
    exact bodyPost_ret (v := .tuple #[zerov, .iface 37 (.int .i64 7)]) (by simp [zerov, results, Tryz.results15, go_sem, rz0, rz1, rz2, rz3, rz4, rz5, rz6, rz7, rz8]) rfl ⟨fun h => by rw [hok'.out] at h; simp at h, fun _ => rfl, hTz.below (Nat.le_refl _) (fun _ h => h.elim)⟩
  · rw [hok] at hC
    obtain ⟨h1, h2, h3, h4, h5, h6, h7⟩ := TM.okt_parts hok
    have hN := Lib.hid (fun (w' : World) (q : Nat) (hb : Below w.heap.size w w') (hq : w.heap.size ≤ q) (hI : Im w' q 0 (TM.pl [])) => term_any t w w' q [] [] (t.ps ++ TM.prs t.ks) vp vi vk hT hB hb hq hI (fun _ h => h) h4 h3 ⟨[], by simp⟩ (by simpa using Nat.le_trans h7 (by omega)) (by omega))
    have hQ := Lib.hid (fun (w' : World) (S : Nat → Prop) (vp' vi' vk' : Value) (ht : TmOwn w' (fun g => g < w.heap.size) S (TM.alpha t) vp' vi' vk') (hS : ∀ g, S g → w.heap.size ≤ g) => apart_any (TM.alpha t) w' (fun g => g < w.heap.size) S vp' vi' vk' ht (fun g _ hs hd => by have := hS g hs; omega) h5 (TM.nmt_dok _ h6) (by rw [show (TM.alpha t).ks = TM.nmt (t.ps ++ TM.prs t.ks) t.ks from rfl, TM.nmt_sz]; omega))
    have hok' := Lib.hid hok
    have hpl : TM.pl [] = fun _ => 0 := by funext x; simp [TM.pl]
    have hpl' := Lib.hid hpl
    have hal : TM.nm1 (t.ps ++ TM.prs t.ks) t = TM.alpha t := rfl
    unfold NumN at hN
    rw [hal] at hN
    unfold QaN at hQ
    unfold chv tmv at hC
    unfold tmv at hN hQ
    unfold tmv
    clear hok hT hB h1 h2 h3 h4 h5 h6 h7 hpl hal
    go_enter Tryz.func15, Tryz.ntmps15
    go_wp2_with (first
      | (go_at_call 9
         refine (hC.out _ hba).mono ?_
         rintro e w2 ⟨rfl, hb2⟩
         have hb3 : Below w.heap.size w w2 := hba.trans (Below.mono hb2 (by simp; omega))
         have hM2 := hL.below hb2 hL.lt
         have hMr2 := hLr.below hb2 hLr.lt
         have hM3 := hM2.alloc (.map #[] 0)
         have hMr3 := hMr2.alloc (.map #[] 0)
         have y0 := hM3.cell 0
         have y1 := hM3.cell 1
         have y2 := hM3.cell 2
         have y3 := hM3.cell 3
         have y4 := hM3.cell 4
         have y5 := hM3.cell 5
         have y6 := hM3.cell 6
         have y7 := hM3.cell 7
         have y8 := hM3.cell 8
         simp only [List.getElem?_cons_succ, List.getElem?_cons_zero] at y0 y1 y2 y3 y4 y5 y6 y7 y8
         have hI3 : Im (w2.alloc (.map #[] 0)) w2.heap.size 0 (TM.pl []) := by rw [hpl'.out]; exact Im.made w2
         have hI3' := Lib.hid hI3
         have hsz := Lib.hid hb3.size
         have hb4 := hb3.alloc hsz.out (.map #[] 0)
         have hlt2 := hMr2.lt
         have hlt3 := hM2.lt
         clear hb2 hI3)
      | (go_at_call 36
         refine (hN.out _ _ hb4 hsz.out hI3'.out).mono ?_
         rintro e w5 ⟨vp6, vk6, rfl, hTo, -, hT5⟩
         have hMr5 := hMr3.turns hT5 (by omega)
         have hT5' := Lib.hid hT5
         have hTo' := Lib.hid hTo
         clear hT5 hTo)
      | (go_at_call 35
         refine (hQ.out _ _ _ _ _ hTo'.out (fun g hg => by simp at hg; have := hb3.size; omega)).mono ?_
         rintro e w7 ⟨vi7, rfl, hTo7, hT7⟩
         obtain ⟨P6, m6, p6, rfl⟩ : ∃ A m c, vp6 = .slice A m c := by obtain ⟨A, c, e⟩ := hTo7.tmin.p.read; exact ⟨_, _, _, e⟩
         obtain ⟨I7, l7, q7, rfl⟩ : ∃ A m c, vi7 = .slice A m c := by obtain ⟨A, c, e⟩ := hTo7.tmin.d.read; exact ⟨_, _, _, e⟩
         obtain ⟨K6, n6, r6, rfl⟩ : ∃ A m c, vk6 = .slice A m c := by obtain ⟨A, c, e⟩ := hTo7.tmin.k.read; exact ⟨_, _, _, e⟩
         have hMrX := hMr5.turns hT7 (fun h => by simp at h; omega)
         have cz0 := hMrX.cell 0
         have fz0 := hMrX.free 0
         have cz1 := hMrX.cell 1
         have fz1 := hMrX.free 1
         have cz2 := hMrX.cell 2
         have fz2 := hMrX.free 2
         have cz3 := hMrX.cell 3
         have fz3 := hMrX.free 3
         have cz4 := hMrX.cell 4
         have fz4 := hMrX.free 4
         have cz5 := hMrX.cell 5
         have fz5 := hMrX.free 5
         have cz6 := hMrX.cell 6
         have fz6 := hMrX.free 6
         have cz7 := hMrX.cell 7
         have fz7 := hMrX.free 7
         have cz8 := hMrX.cell 8
         have fz8 := hMrX.free 8
         simp only [List.getElem?_cons_succ, List.getElem?_cons_zero] at cz0 cz1 cz2 cz3 cz4 cz5 cz6 cz7 cz8
         have hltX := hMrX.lt
         have R7 := Lib.hid (And.intro hTo7 hT7)
         clear hTo7 hT7))
    obtain ⟨hTo7, hT7⟩ := R7.out
    have hs5 := hT5'.out.size
    have hTw : Turns (fun _ => False) w w7 := ((Turns.of_below hb4 (fun _ => False)).then hT5'.out (fun i hi he => by have := hb3.size; omega)).then hT7 (fun i hi he => by simp at he; have := hb3.size; omega)
    have T9 := nine_turns (Turns.refl (fun k => k = w.heap.size + 1) w7) (g := w.heap.size + 1) (fun _ => rfl) 0 (.int .i64 (TM.alpha t).k) (.int .i64 (TM.alpha t).n) (.string ⟨(TM.alpha t).s.toArray⟩) (.slice P6 m6 p6) (.int .i64 (TM.alpha t).d.k) (.int .i64 (TM.alpha t).d.n) (.string ⟨(TM.alpha t).d.s.toArray⟩) (.slice I7 l7 q7) (.slice K6 n6 r6)
    have hTz := hTw.then T9 (fun i hi he => by omega)
    have hMz := nine_res hMrX (w.heap.size + 1) rfl (.int .i64 (TM.alpha t).k) (.int .i64 (TM.alpha t).n) (.string ⟨(TM.alpha t).s.toArray⟩) (.slice P6 m6 p6) (.int .i64 (TM.alpha t).d.k) (.int .i64 (TM.alpha t).d.n) (.string ⟨(TM.alpha t).d.s.toArray⟩) (.slice I7 l7 q7) (.slice K6 n6 r6)
    have rz0 := hMz.cell 0
    have rz1 := hMz.cell 1
    have rz2 := hMz.cell 2
    have rz3 := hMz.cell 3
    have rz4 := hMz.cell 4
    have rz5 := hMz.cell 5
    have rz6 := hMz.cell 6
    have rz7 := hMz.cell 7
    have rz8 := hMz.cell 8
    unfold nine at rz0 rz1 rz2 rz3 rz4 rz5 rz6 rz7 rz8
    simp only [List.getElem?_cons_succ, List.getElem?_cons_zero, Nat.zero_add] at rz0 rz1 rz2 rz3 rz4 rz5 rz6 rz7 rz8
    have hFin := (hTo7.turns T9 (fun g _ hs he => by simp at hs; omega) (fun g _ hs he => by simp at hs hs5; omega)).tmin
    exact bodyPost_ret (v := .tuple #[.agg #[.int .i64 (TM.alpha t).k, .int .i64 (TM.alpha t).n, .string ⟨(TM.alpha t).s.toArray⟩, .slice P6 m6 p6, .int .i64 (TM.alpha t).d.k, .int .i64 (TM.alpha t).d.n, .string ⟨(TM.alpha t).d.s.toArray⟩, .slice I7 l7 q7, .slice K6 n6 r6], .nilIface]) (by simp [results, Tryz.results15, go_sem, rz0, rz1, rz2, rz3, rz4, rz5, rz6, rz7, rz8]) rfl ⟨fun _ => ⟨_, _, _, rfl, hFin⟩, fun h => by rw [hok'.out] at h; simp at h, hTz.below (Nat.le_refl _) (fun _ h => h.elim)⟩
end Go.Proofs.YtpiekdcbjkgipaaGreatDoor

/- Package term: Text. -/
namespace Go.Proofs.YtpiekdcbjkgipaaGreatDoor
open Go.ChangeShapes Go.WideShapes Go.ChangeAt Go.RowKit Go.Deep
open TM (Tl Tm)

namespace TM
theorem pl_b64 {l : List Int} (h : l.length ≤ 1000000) (n : Int) : b64 (pl l n) := by
  unfold b64
  cases hc : l.contains n
  · rw [pl_none hc]; omega
  · have := pl_some hc; omega
theorem fit_quo {bd : List Int} {t : Tm} (h : fit bd t = true) (hk : t.k = 1) : quo t.d = true := by
  unfold fit at h
  rw [if_pos hk] at h
  simp only [Bool.and_eq_true] at h
  exact h.2
theorem nm1_tw {bd : List Int} {t : Tm} {l : List Int} (h : fit bd t = true) (hn : b64 t.n) (hl : l.length ≤ 1000000) : Tw1 (nm1 l t) := by
  refine ⟨fit_short (t := t) h, by simpa [nm1] using fit_len (t := t) h, ?_, ?_, fun hk => fit_quo (t := t) h hk⟩
  · unfold nm1
    simp only
    split
    · exact pl_b64 hl _
    · exact hn
  · intro q hq
    unfold nm1 at hq
    simp only [List.mem_map] at hq
    obtain ⟨a, _, rfl⟩ := hq
    exact pl_b64 hl a
theorem nmt_tw {l : List Int} (hl : l.length ≤ 1000000) : ∀ {bd : List Int} {d : Tl}, rtl bd d = true → TBd d → Twf (nmt l d)
  | _, .nil, _, _ => trivial
  | bd, .cons k n s ps d ks r, h, hB => by
    simp only [rtl, Bool.and_eq_true] at h
    obtain ⟨_, hn, _, _, _, _, hk, hr⟩ := hB
    exact ⟨nm1_tw h.1.1 hn hl, nmt_tw hl h.1.2 hk, nmt_tw hl h.2 hr⟩
end TM
theorem Tab.agr {w w1 : World} (h : Tab w) (hs : w.heap.size ≤ w1.heap.size) (hb : ∀ g, g < w.heap.size → w1.heap[g]? = w.heap[g]?) : Tab w1 :=
  h.on (w' := { w1 with os := w.os, tape := w.tape, output := w.output }) ⟨rfl, rfl, rfl, hs, hb⟩
set_option maxRecDepth 100000 in
set_option maxHeartbeats 4000000 in
theorem ttext_any (t : Tm) (w : World) (vp vi vk : Value) (hT : TmIn w t vp vi vk) (hB : TmBd t) (hTab : Tab w) :
    Calls Tryz.prog 16 #[tmv t vp vi vk] w fun e w' => e = .returned (.tuple #[.string ⟨(if TM.okt t then TM.ttx (TM.alpha t) else []).toArray⟩, chv (TM.okt t)]) ∧ Went w w' := by
  have hC := Lib.hid (fun (w' : World) (hb : Below w.heap.size w w') => tcheck_any t w' vp vi vk (hT.below hb) hB)
  have hmm := @run_makeMap Tryz.prog
  have hL := Lies.made w 28 #[.int .i64 t.k, .int .i64 t.n, .string ⟨t.s.toArray⟩, vp, .int .i64 t.d.k, .int .i64 t.d.n, .string ⟨t.d.s.toArray⟩, vi, vk]
  have hba : Below w.heap.size w (w.alloc (.cells #[.int .i64 t.k, .int .i64 t.n, .string ⟨t.s.toArray⟩, vp, .int .i64 t.d.k, .int .i64 t.d.n, .string ⟨t.d.s.toArray⟩, vi, vk] 28)) := (Below.refl _ w).alloc (Nat.le_refl _) _
  cases hok : TM.okt t
  · rw [hok] at hC
    unfold chv tmv at hC
    unfold chv tmv
    rw [if_neg (by simp)]
    clear hok hT hB
    go_enter Tryz.func16, Tryz.ntmps16
    go_wp2_with (go_at_call 9; refine (hC.out _ hba).mono ?_; rintro e w5 ⟨rfl, hb5⟩)
    go_ret2
    exact ⟨rfl, hba.trans (hb5.mono hba.size)⟩
  · rw [hok] at hC
    obtain ⟨h1, h2, h3, h4, h5, h6, h7⟩ := TM.okt_parts hok
    have h4' := h4
    rw [TM.ok1, Bool.and_eq_true] at h4'
    have hW1 : Tw1 (TM.alpha t) := TM.nm1_tw h4'.1 hB.n (Nat.le_trans h7 (by omega))
    have hW2 : Twf (TM.alpha t).ks := TM.nmt_tw (Nat.le_trans h7 (by omega)) h4'.2 hB.ks
    have hsz : TM.sz (TM.alpha t).ks + 1 ≤ 4000 := by rw [show (TM.alpha t).ks = TM.nmt (t.ps ++ TM.prs t.ks) t.ks from rfl, TM.nmt_sz]; exact h1
    have hN := Lib.hid (fun (w' : World) (q : Nat) (hb : Below w.heap.size w w') (hq : w.heap.size ≤ q) (hI : Im w' q 0 (TM.pl [])) => term_any t w w' q [] [] (t.ps ++ TM.prs t.ks) vp vi vk hT hB hb hq hI (fun _ h => h) h4 h3 ⟨[], by simp⟩ (by simpa using Nat.le_trans h7 (by omega)) (by omega))
    have hbd : ([] : List UInt8).length + 7000000 * (TM.sz (TM.alpha t).ks + 1) ≤ 10000000000000 := by simp only [List.length_nil]; omega
    have hQ := Lib.hid (fun (W0 : World) (up ui uk : Value) (B p : Nat) (v : Value) (hD : TmD W0 (fun g => g ≠ p) (TM.alpha t) up ui uk) (hb : Base W0 W0 B p v []) => write1_any (TM.alpha t) W0 W0 up ui uk B p v [] hD hW1 hW2 hb hbd)
    have hTab' := Lib.hid hTab
    have hpl : TM.pl [] = fun _ => 0 := by funext x; simp [TM.pl]
    have hpl' := Lib.hid hpl
    have hal : TM.nm1 (t.ps ++ TM.prs t.ks) t = TM.alpha t := rfl
    unfold NumN at hN
    rw [hal] at hN
    rw [if_pos rfl]
    unfold WtN at hQ
    rw [List.nil_append] at hQ
    generalize TM.ttx (TM.alpha t) = tx at hQ ⊢
    unfold chv tmv at hC
    unfold tmv at hN hQ
    unfold chv tmv
    clear hok hT hB h1 h2 h3 h4 h5 h6 h7 hpl hal h4' hW1 hW2 hsz hbd hTab
    go_enter Tryz.func16, Tryz.ntmps16
    go_wp2_with (first
      | (go_at_call 9
         refine (hC.out _ hba).mono ?_
         rintro e w2 ⟨rfl, hb2⟩
         have hb3 : Below w.heap.size w w2 := hba.trans (Below.mono hb2 hba.size)
         have hM2 := hL.below hb2 hL.lt
         have hMa := hM2.alloc (.cells #[.slice none 0 0] 63)
         have hM3 := hMa.alloc (.map #[] 0)
         have hWr := Lies.made w2 63 #[.slice none 0 0]
         have hWm := hWr.alloc (.map #[] 0)
         have y0 := hM3.cell 0
         have y1 := hM3.cell 1
         have y2 := hM3.cell 2
         have y3 := hM3.cell 3
         have y4 := hM3.cell 4
         have y5 := hM3.cell 5
         have y6 := hM3.cell 6
         have y7 := hM3.cell 7
         have y8 := hM3.cell 8
         simp only [List.getElem?_cons_succ, List.getElem?_cons_zero] at y0 y1 y2 y3 y4 y5 y6 y7 y8
         have hsz1 : (w2.alloc (.cells #[.slice none 0 0] 63)).heap.size = w2.heap.size + 1 := by simp
         have hI3 : Im ((w2.alloc (.cells #[.slice none 0 0] 63)).alloc (.map #[] 0)) (w2.heap.size + 1) 0 (TM.pl []) := by rw [hpl'.out, ← hsz1]; exact Im.made _
         have hI3' := Lib.hid hI3
         have hsz := Lib.hid hb3.size
         have hsz1' := Lib.hid hsz1
         have hb4 := Lib.hid ((hb3.alloc hsz.out (.cells #[.slice none 0 0] 63)).alloc (by rw [hsz1]; have := hsz.out; omega) (.map #[] 0))
         have hlt2 := hM2.lt
         clear hb2 hI3 hsz1)
      | (go_at_call 36
         refine (hN.out _ (w2.heap.size + 1) hb4.out (by have := hsz.out; omega) hI3'.out).mono ?_
         rintro e w5 ⟨vp6, vk6, rfl, hTo, -, hT5⟩
         have hWr5 := hWm.turns hT5 (by omega)
         have hT5' := Lib.hid hT5
         have hTo' := Lib.hid hTo
         clear hT5 hTo)
      | (go_at_call 37
         refine (hQ.out w5 _ _ _ w5.heap.size w2.heap.size (.slice none 0 0) ?_ ?_).mono ?_
         · exact hTo'.out.tmd (fun g _ hg e => by have := hsz.out; have hg' : g < w.heap.size := hg; omega) (fun g hg e => by have hg' : ((w2.alloc (.cells #[.slice none 0 0] 63)).alloc (.map #[] 0)).heap.size ≤ g := hg; simp at hg'; omega)
         · refine ⟨fun w1 k => hTab'.out.agr (Nat.le_trans (Nat.le_trans hb4.out.size hT5'.out.size) k.size) (fun g hg => ?_), Nat.le_refl _, Agr.refl _ _, Nat.le_refl _, Nat.le_refl _, hWr5, OwnB.none_ _ _⟩
           have h1 := hsz.out
           rw [k.block g (Nat.lt_of_lt_of_le hg (Nat.le_trans hb4.out.size hT5'.out.size)) (by omega), Turns.block hT5'.out g (Nat.lt_of_lt_of_le hg hb4.out.size) (by omega), hb4.out.block g hg]
         rintro e w8 ⟨rfl, ⟨v8, hW8⟩, hc8⟩
         have hcv := hW8.2.2.conv
         have q0 : w8.cell? ⟨w2.heap.size, 0, none⟩ = some v8 := hW8.2.1.cell 0
         have hb8 : Below w.heap.size w w8 := (hb4.out.trans ((Turns.below hT5'.out (B := w.heap.size) hb4.out.size (fun i hi => by have := hsz.out; have hi' : i = w2.heap.size + 1 := hi; omega)))).trans (Turns.below hc8 (B := w.heap.size) (Nat.le_trans hb4.out.size hT5'.out.size) (fun i hi => by have h1 := hsz.out; have h2 := hb4.out.size; have h3 := hT5'.out.size; rcases hi with hi | hi <;> omega))))
    go_ret2
    exact ⟨rfl, hb8⟩
end Go.Proofs.YtpiekdcbjkgipaaGreatDoor

/- Package term: are two data the same, all through? The library's EqualFunc over data; the reference's Same. -/
namespace Go.Proofs.YtpiekdcbjkgipaaGreatDoor
open Go.ChangeShapes Go.WideShapes Go.ChangeAt Go.RowKit Go.Deep

theorem str_ne {a b : List UInt8} (h : ¬ a = b) : ((⟨a.toArray⟩ : ByteArray).toList == (⟨b.toArray⟩ : ByteArray).toList) = false ∧ ¬ (⟨a.toArray⟩ : ByteArray).toList = (⟨b.toArray⟩ : ByteArray).toList ∧ ((⟨a.toArray⟩ : ByteArray).toList != (⟨b.toArray⟩ : ByteArray).toList) = true := by
  have e : ∀ l : List UInt8, (⟨l.toArray⟩ : ByteArray).toList = l := fun l => by rw [ByteArray.toList_eq]
  rw [e, e]
  exact ⟨by simpa using h, h, by simpa using h⟩
def BoolIff (p : Prop) (w : World) (e : Ending) (w' : World) : Prop := ∃ r : Bool, e = .returned (.bool r) ∧ (r = true ↔ p) ∧ Went w w'
def SdOk (x : RM.Dm) : Prop := ∀ (y : RM.Dm) (w : World) (u v : Value), In w u x.is → In w v y.is → Calls Tryz.prog 63 #[dtv x u, dtv y v] w (BoolIff (x = y) w)
theorem SM.dr_eq {a b : RM.Dl} {j : Nat} {x y : RM.Dm} (hx : a.at_ j = some x) (hy : b.at_ j = some y) : SM.dr a j = SM.dr b j ↔ (x = y ∧ SM.dr a (j + 1) = SM.dr b (j + 1)) := by
  rw [SM.dr_at a j x hx, SM.dr_at b j y hy]
  obtain ⟨k, n, s, is⟩ := x
  obtain ⟨k2, n2, s2, is2⟩ := y
  simp only [RM.Dl.cons.injEq, RM.Dm.mk.injEq]
  constructor
  · rintro ⟨h1, h2, h3, h4, h5⟩; exact ⟨⟨h1, h2, h3, h4⟩, h5⟩
  · rintro ⟨⟨h1, h2, h3, h4⟩, h5⟩; exact ⟨h1, h2, h3, h4, h5⟩
set_option maxRecDepth 100000 in
set_option maxHeartbeats 4000000 in
theorem equalData_any (is ys : RM.Dl) (hP : ∀ i x, is.at_ i = some x → SdOk x) (w : World) (u v : Value) (h1 : In w u is) (h2 : In w v ys) :
    Calls Tryz.prog 95 #[u, v, .func (.func 63) #[] #[]] w (BoolIff (is = ys) w) := by
  obtain ⟨A1, c1, rfl⟩ := h1.read
  obtain ⟨A2, c2, rfl⟩ := h2.read
  have hl1 := h1.len
  have hl2 := h2.len
  obtain ⟨N, hN⟩ : ∃ N, is.len = N := ⟨_, rfl⟩
  obtain ⟨M, hM⟩ : ∃ M, ys.len = M := ⟨_, rfl⟩
  rw [hN] at h1 hl1 ⊢
  rw [hM] at h2 hl2 ⊢
  have hN' := Lib.hid hN
  have hM' := Lib.hid hM
  have hP' := Lib.hid hP
  clear hN hM hP
  by_cases hne : N = M
  · subst hne
    go_enter Tryz.func95, Tryz.ntmps95
    go_wp2_with fail
    go_loopw [17] (fun i wr => ∃ (j : Nat), j ≤ N ∧ i = .int .i64 j ∧ Hid (is = ys ↔ SM.dr is j = SM.dr ys j) ∧ Below w.heap.size w wr) (fun i _ => N - (intOf i).toNat)
    case atStart => exact ⟨0, Nat.zero_le _, rfl, Lib.hid (by rw [SM.dr_zero, SM.dr_zero]), Below.refl _ w⟩
    case round =>
      obtain ⟨j, hj, rfl, hd, hb⟩ := hrel
      by_cases hlt : j < N
      · obtain ⟨x, hx⟩ := is.at_some j (by rw [hN'.out]; exact hlt)
        obtain ⟨y, hy⟩ := ys.at_some j (by rw [hM'.out]; exact hlt)
        obtain ⟨g1, o1, B1, b1, rfl, hg1, p0, p1, p2, p3, hd1⟩ := (h1.below hb).at_ hx
        obtain ⟨g2, o2, B2, b2, rfl, hg2, q0, q1, q2, q3, hd2⟩ := (h2.below hb).at_ hy
        have hdr := SM.dr_eq hx hy
        have hba : Below wr.heap.size wr ((wr.alloc (.cells #[.int .i64 x.k, .int .i64 x.n, .string ⟨x.s.toArray⟩, .slice B1 x.is.len b1] 25)).alloc (.cells #[.int .i64 y.k, .int .i64 y.n, .string ⟨y.s.toArray⟩, .slice B2 y.is.len b2] 25)) := ((Below.refl _ wr).alloc (Nat.le_refl _) _).alloc (by simp) _
        have hC := Lib.hid (hP'.out j x hx y _ _ _ (hd1.below hba) (hd2.below hba))
        unfold dtv at hC
        have hdr' := Lib.hid hdr
        have hb2 := Lib.hid (hb.trans (hba.mono hb.size))
        have ca : ∀ o, (wr.alloc (.cells #[.int .i64 x.k, .int .i64 x.n, .string ⟨x.s.toArray⟩, .slice B1 x.is.len b1] 25)).cell? ⟨g2, o, none⟩ = wr.cell? ⟨g2, o, none⟩ := fun o => ((Below.refl _ wr).alloc (Nat.le_refl _) _).cell (p := ⟨g2, o, none⟩) hg2
        rw [← ca] at q0 q1 q2 q3
        clear hx hy hd1 hd2 hdr hba ca
        go_wp2_with (
          go_at_call 63
          refine hC.out.mono ?_
          rintro e w5 ⟨r, rfl, hr, hb5⟩
          have hr' := Lib.hid hr
          have hb6 := hb2.out.trans (Below.mono hb5 hb2.out.size)
          clear hr hb5)
        · go_ret
          refine ⟨false, rfl, ?_, hb6⟩
          rw [hd.out, hdr'.out, ← hr'.out]
          simp_all
        · go_roundw
          case rel => exact ⟨j + 1, by omega, by go_num, Lib.hid (by rw [hd.out, hdr'.out, ← hr'.out]; simp_all), hb6⟩
          case measure => simp [intOf]; omega
      · obtain rfl : j = N := by omega
        go_wp2_with fail
        go_ret
        refine ⟨true, rfl, ?_, hb⟩
        rw [hd.out, SM.dr_end is j (by rw [hN'.out]; exact Nat.le_refl _), SM.dr_end ys j (by rw [hM'.out]; exact Nat.le_refl _)]
        simp
  · go_enter Tryz.func95, Tryz.ntmps95
    go_wp2_with fail
    go_ret
    refine ⟨false, rfl, ?_, Below.refl _ w⟩
    constructor
    · intro h; simp at h
    · intro h; exact absurd (by rw [← hN'.out, ← hM'.out, h]) hne
set_option maxRecDepth 100000 in
set_option maxHeartbeats 4000000 in
theorem sd_step (k n : Int) (s : List UInt8) (is : RM.Dl) (hP : ∀ i x, is.at_ i = some x → SdOk x) : SdOk ⟨k, n, s, is⟩ := by
  intro y w u v h1 h2
  obtain ⟨k2, n2, s2, ys⟩ := y
  obtain ⟨A1, c1, rfl⟩ := h1.read
  obtain ⟨A2, c2, rfl⟩ := h2.read
  unfold dtv
  simp only at h1 h2 ⊢
  have hl1 := h1.len
  have hl2 := h2.len
  have hE := Lib.hid (fun (w' : World) (hb : Below w.heap.size w w') => equalData_any is ys hP w' _ _ (h1.below hb) (h2.below hb))
  have hba : Below w.heap.size w ((w.alloc (.cells #[.int .i64 k, .int .i64 n, .string ⟨s.toArray⟩, .slice A1 is.len c1] 25)).alloc (.cells #[.int .i64 k2, .int .i64 n2, .string ⟨s2.toArray⟩, .slice A2 ys.len c2] 25)) := ((Below.refl _ w).alloc (Nat.le_refl _) _).alloc (by simp) _
  have hiff : ((⟨k, n, s, is⟩ : RM.Dm) = ⟨k2, n2, s2, ys⟩) ↔ (k = k2 ∧ n = n2 ∧ s = s2 ∧ is = ys) := by simp only [RM.Dm.mk.injEq]
  have hiff' := Lib.hid hiff
  generalize is.len = N at h1 hl1 hE hba ⊢
  generalize ys.len = M at h2 hl2 hE hba ⊢
  clear hP h1 h2 hiff
  by_cases hk : k = k2
  · by_cases hn : n = n2
    · by_cases hs : s = s2
      · subst hk hn hs
        go_enter Tryz.func63, Tryz.ntmps63
        go_wp2_with (
          go_at_call 95
          refine (hE.out _ hba).mono ?_
          rintro e w5 ⟨r, rfl, hr, hb5⟩
          have hr' := Lib.hid hr
          have hb6 := hba.trans (Below.mono hb5 hba.size)
          clear hr hb5)
        go_ret
        exact ⟨r, rfl, by rw [hiff'.out, hr'.out]; simp, hb6⟩
      · obtain ⟨e1, e2, e3⟩ := str_ne hs
        subst hk hn
        have hs' := Lib.hid hs
        clear hs
        go_enter Tryz.func63, Tryz.ntmps63
        go_wp2_with fail
        go_ret
        exact ⟨false, rfl, by first | (simp; done) | (rw [hiff'.out]; simp [hs'.out]), hba⟩
    · subst hk
      have hn' := Lib.hid hn
      go_enter Tryz.func63, Tryz.ntmps63
      go_wp2_with fail
      go_ret
      exact ⟨false, rfl, by first | (simp; done) | (rw [hiff'.out]; simp [hn'.out]), hba⟩
  · have hk' := Lib.hid hk
    go_enter Tryz.func63, Tryz.ntmps63
    go_wp2_with fail
    go_ret
    exact ⟨false, rfl, by first | (simp; done) | (rw [hiff'.out]; simp [hk'.out]), hba⟩
theorem sameData_any (x : RM.Dm) : SdOk x := RM.Dl.all_of SdOk sd_step (.one x) 0 x (by cases x; rfl)
end Go.Proofs.YtpiekdcbjkgipaaGreatDoor
