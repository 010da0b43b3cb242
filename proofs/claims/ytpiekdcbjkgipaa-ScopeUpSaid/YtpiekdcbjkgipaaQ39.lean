/- Package term: Check. -/
import Derived.Test.YtpiekdcbjkgipaaQ28
import Derived.Carry
import Derived.Test.YtpiekdcbjkgipaaQ38
namespace Go.Proofs.Ytpiekdcbjkgipaa
open Go.ChangeShapes Go.WideShapes Go.ChangeAt Go.RowKit Go.Deep
open TM (Tl Tm)

set_option maxRecDepth 100000 in
set_option maxHeartbeats 2000000 in
theorem tcheck_any (t : Tm) (w : World) (vp vi vk : Value) (hT : TmIn w t vp vi vk) (hB : TmBd t) :
    Calls Try.prog 17 #[tmv t vp vi vk] w fun e w' => e = .returned (chv (TM.okt t)) ∧ Went w w' := by
  have hP := Lib.hid (fun (w' : World) (hb : Below w.heap.size w w') => parts_any t vp vi vk w' (hT.below hb))
  have hR := Lib.hid (fun (w' : World) (q : Nat) (hb : Below w.heap.size w w') (hq : w.heap.size ≤ q) (hI : Im w' q 0 (TM.ls [] [])) (hm : TM.sz t.ks + 1 ≤ 4000) => isRight_any t w w' q 0 [] [] 1 vp vi vk hT hB hb hq hI (fun _ h => h) (by omega) (by omega) (by omega))
  obtain ⟨okb, hok⟩ : ∃ okb, TM.okt t = okb := ⟨_, rfl⟩
  rw [hok]
  unfold TM.okt at hok
  obtain ⟨Y, hY⟩ : ∃ Y, min (TM.sz t.ks + 1) 5000 = Y := ⟨_, rfl⟩
  rw [hY] at hP
  unfold tmv at hP hR ⊢
  have hmm := @run_makeMap Try.prog
  have hL := Lies.made w 32 #[.int .i64 t.k, .int .i64 t.n, .string ⟨t.s.toArray⟩, vp, .int .i64 t.d.k, .int .i64 t.d.n, .string ⟨t.d.s.toArray⟩, vi, vk]
  have hb1 : Below w.heap.size w (w.alloc (.cells #[.int .i64 t.k, .int .i64 t.n, .string ⟨t.s.toArray⟩, vp, .int .i64 t.d.k, .int .i64 t.d.n, .string ⟨t.d.s.toArray⟩, vi, vk] 32)) := (Below.refl _ w).alloc (Nat.le_refl _) _
  by_cases h4 : TM.sz t.ks + 1 ≤ 4000
  · have hYe : Y ≤ 4000 := by omega
    have hY' := Lib.hid hY
    rw [decide_eq_true h4, Bool.true_and, Bool.and_assoc, Bool.and_comm (TM.frs _ _), show decide (TM.hi t.ks + 1 ≤ 200) = decide (1 + (TM.hi t.ks : Int) ≤ 200) from decide_eq_decide.2 (by omega)] at hok
    have hR1 := Lib.hid (fun (w' : World) (q : Nat) (hb : Below w.heap.size w w') (hq : w.heap.size ≤ q) (hI : Im w' q 0 (TM.ls [] [])) => hR.out w' q hb hq hI h4)
    rw [hok] at hR1
    unfold LocsN at hR1
    clear hR hok hY hT hB h4
    have hls : TM.ls [] [] = fun _ => 0 := by funext x; simp [TM.ls]
    have hls' := Lib.hid hls
    clear hls
    cases okb
    all_goals
      unfold chv
      go_enter Try.func17, Try.ntmps17
      go_wp2_with (first
        | (go_at_call 11
           refine (hP.out _ hb1).mono ?_
           rintro e w2 ⟨rfl, hb2⟩
           have hb3 := hb1.trans (hb2.mono hb1.size)
           have hL2 := hL.below hb2 hL.lt
           have hL3 := hL2.alloc (.map #[] 0)
           have hlt := hL2.lt
           have z0 := hL2.cell 0
           have z1 := hL2.cell 1
           have z2 := hL2.cell 2
           have z3 := hL2.cell 3
           have z4 := hL2.cell 4
           have z5 := hL2.cell 5
           have z6 := hL2.cell 6
           have z7 := hL2.cell 7
           have z8 := hL2.cell 8
           have y0 := hL3.cell 0
           have y1 := hL3.cell 1
           have y2 := hL3.cell 2
           have y3 := hL3.cell 3
           have y4 := hL3.cell 4
           have y5 := hL3.cell 5
           have y6 := hL3.cell 6
           have y7 := hL3.cell 7
           have y8 := hL3.cell 8
           simp only [List.getElem?_cons_succ, List.getElem?_cons_zero] at z0 z1 z2 z3 z4 z5 z6 z7 z8 y0 y1 y2 y3 y4 y5 y6 y7 y8
           have hI3 : Im (w2.alloc (.map #[] 0)) w2.heap.size 0 (TM.ls [] []) := by rw [hls'.out]; exact Im.made w2
           have hI3' := Lib.hid hI3
           have hsz := Lib.hid hb3.size
           have hb4 := hb3.alloc hsz.out (.map #[] 0)
           clear hb2 hI3)
        | (go_at_call 29
           refine (hR1.out _ _ hb4 hsz.out hI3'.out).mono ?_
           rintro e w5 ⟨rfl, hT5, -⟩
           have hb6 := below_of_turns hb4 hT5 hsz.out))
      go_ret
      exact ⟨rfl, hb6⟩
  · have hYe : 4000 < Y := by omega
    obtain rfl : okb = false := by rw [← hok, decide_eq_false h4]; simp
    clear hR hok hY hT hB h4
    unfold chv
    go_enter Try.func17, Try.ntmps17
    go_wp2_with (
      go_at_call 11
      refine (hP.out _ hb1).mono ?_
      rintro e w2 ⟨rfl, hb2⟩
      have hb3 := hb1.trans (hb2.mono hb1.size))
    go_ret
    exact ⟨rfl, hb3⟩
end Go.Proofs.Ytpiekdcbjkgipaa

/- Package term: Alpha. -/
namespace Go.Proofs.Ytpiekdcbjkgipaa
open Go.ChangeShapes Go.WideShapes Go.ChangeAt Go.RowKit Go.Deep
open TM (Tl Tm)

namespace TM
theorem quo_sz {d : RM.Dm} (h : quo d = true) : SM.sz d.is ≤ 5000 := by
  unfold quo at h
  split at h
  · simp only [Bool.and_eq_true, decide_eq_true_eq] at h
    have : d.is = .nil := by
      cases hd : d.is with
      | nil => rfl
      | cons => rw [hd] at h; simp [RM.Dl.len] at h
    rw [this]; simp [SM.sz]
  · unfold SM.okd at h
    simp only [Bool.and_eq_true, decide_eq_true_eq] at h
    omega
theorem nod_sz {d : RM.Dm} (h : nod d = true) : SM.sz d.is ≤ 5000 := by
  unfold nod at h
  simp only [Bool.and_eq_true, decide_eq_true_eq] at h
  have : d.is = .nil := by
    cases hd : d.is with
    | nil => rfl
    | cons => rw [hd] at h; simp [RM.Dl.len] at h
  rw [this]; simp [SM.sz]
theorem fit_data {bd : List Int} {t : Tm} (h : fit bd t = true) : quo t.d = true ∨ nod t.d = true := by
  unfold fit at h
  split at h
  · simp only [Bool.and_eq_true] at h; exact .inl h.2
  repeat
    split at h
    · simp only [Bool.and_eq_true] at h; exact .inr h.2
  · simp at h
theorem fit_sz {bd : List Int} {t : Tm} (h : fit bd t = true) : SM.sz t.d.is ≤ 5000 := (fit_data h).elim quo_sz nod_sz
theorem rtl_dok : ∀ {bd : List Int} {d : Tl}, rtl bd d = true → dok d
  | _, .nil, _ => trivial
  | bd, .cons k n s ps d ks r, h => by
    simp only [rtl, Bool.and_eq_true] at h
    exact ⟨fit_sz h.1.1, rtl_dok h.1.2, rtl_dok h.2⟩
theorem rtl_prs : ∀ {bd : List Int} {d : Tl}, rtl bd d = true → (prs d).length ≤ 24 * sz d
  | _, .nil, _ => by simp [prs, sz]
  | bd, .cons k n s ps d ks r, h => by
    simp only [rtl, Bool.and_eq_true] at h
    have h1 := fit_len h.1.1
    have h2 := rtl_prs h.1.2
    have h3 := rtl_prs h.2
    simp only [prs, sz, List.length_append] at h1 ⊢
    omega
theorem nmt_dok (l : List Int) : ∀ {d : Tl}, dok d → dok (nmt l d)
  | .nil, _ => trivial
  | .cons _ _ _ _ _ _ _, ⟨h1, h2, h3⟩ => ⟨h1, nmt_dok l h2, nmt_dok l h3⟩
theorem nmt_sz (l : List Int) : ∀ d : Tl, sz (nmt l d) = sz d
  | .nil => rfl
  | .cons _ _ _ _ _ ks r => by simp only [nmt, sz]; rw [nmt_sz l ks, nmt_sz l r]
theorem okt_parts {t : Tm} (h : okt t = true) : sz t.ks + 1 ≤ 4000 ∧ hi t.ks + 1 ≤ 200 ∧ frs [] (t.ps ++ prs t.ks) = true ∧ ok1 [] t = true ∧ SM.sz t.d.is ≤ 5000 ∧ dok t.ks ∧ (t.ps ++ prs t.ks).length ≤ 100000 := by
  unfold okt at h
  simp only [Bool.and_eq_true, decide_eq_true_eq] at h
  obtain ⟨⟨⟨h1, h2⟩, h3⟩, h4⟩ := h
  have h5 := h4
  rw [ok1, Bool.and_eq_true] at h5
  have h6 := fit_len h5.1
  have h7 := rtl_prs h5.2
  refine ⟨h1, h2, h3, h4, fit_sz h5.1, rtl_dok h5.2, ?_⟩
  rw [List.length_append]
  omega
end TM
def zerov : Value := .agg #[.int .i64 0, .int .i64 0, .string ⟨#[]⟩, .slice none 0 0, .int .i64 0, .int .i64 0, .string ⟨#[]⟩, .slice none 0 0, .slice none 0 0]
def AlN (t : Tm) (w : World) (e : Ending) (w' : World) : Prop :=
  (TM.okt t = true → ∃ vp vi vk, e = .returned (.tuple #[tmv (TM.alpha t) vp vi vk, .nilIface]) ∧ TmIn w' (TM.alpha t) vp vi vk) ∧ (TM.okt t = false → e = .returned (.tuple #[zerov, .iface 42 (.int .i64 7)])) ∧ Went w w'
set_option maxRecDepth 100000 in
set_option maxHeartbeats 4000000 in
theorem alpha_any (t : Tm) (w : World) (vp vi vk : Value) (hT : TmIn w t vp vi vk) (hB : TmBd t) :
    Calls Try.prog 9 #[tmv t vp vi vk] w (AlN t w) := by
  have hC := Lib.hid (fun (w' : World) (hb : Below w.heap.size w w') => tcheck_any t w' vp vi vk (hT.below hb) hB)
  have hmm := @run_makeMap Try.prog
  have hL := (Lies.made w 32 #[.int .i64 t.k, .int .i64 t.n, .string ⟨t.s.toArray⟩, vp, .int .i64 t.d.k, .int .i64 t.d.n, .string ⟨t.d.s.toArray⟩, vi, vk]).alloc (.cells #[.int .i64 0, .int .i64 0, .string ⟨#[]⟩, .slice none 0 0, .int .i64 0, .int .i64 0, .string ⟨#[]⟩, .slice none 0 0, .slice none 0 0] 32)
  have hz1 : (w.alloc (.cells #[.int .i64 t.k, .int .i64 t.n, .string ⟨t.s.toArray⟩, vp, .int .i64 t.d.k, .int .i64 t.d.n, .string ⟨t.d.s.toArray⟩, vi, vk] 32)).heap.size = w.heap.size + 1 := by simp
  have hLr := Lies.made (w.alloc (.cells #[.int .i64 t.k, .int .i64 t.n, .string ⟨t.s.toArray⟩, vp, .int .i64 t.d.k, .int .i64 t.d.n, .string ⟨t.d.s.toArray⟩, vi, vk] 32)) 32 #[.int .i64 0, .int .i64 0, .string ⟨#[]⟩, .slice none 0 0, .int .i64 0, .int .i64 0, .string ⟨#[]⟩, .slice none 0 0, .slice none 0 0]
  rw [hz1] at hLr
  have hba : Below w.heap.size w ((w.alloc (.cells #[.int .i64 t.k, .int .i64 t.n, .string ⟨t.s.toArray⟩, vp, .int .i64 t.d.k, .int .i64 t.d.n, .string ⟨t.d.s.toArray⟩, vi, vk] 32)).alloc (.cells #[.int .i64 0, .int .i64 0, .string ⟨#[]⟩, .slice none 0 0, .int .i64 0, .int .i64 0, .string ⟨#[]⟩, .slice none 0 0, .slice none 0 0] 32)) :=
    ((Below.refl _ w).alloc (Nat.le_refl _) _).alloc (by simp) _
  clear hz1
  cases hok : TM.okt t
  · rw [hok] at hC
    have hok' := Lib.hid hok
    unfold chv tmv at hC
    unfold tmv
    clear hok hT hB
    go_enter Try.func9, Try.ntmps9
    go_wp2_with (
      go_at_call 17
      refine (hC.out _ hba).mono ?_
      rintro e w2 ⟨rfl, hb2⟩
      have hb3 : Below w.heap.size w w2 := hba.trans (Below.mono hb2 (by simp; omega))
      have hMr2 := hLr.below hb2 hLr.lt
      have cz0 := hMr2.cell 0
      have cz1 := hMr2.cell 1
      have cz2 := hMr2.cell 2
      have cz3 := hMr2.cell 3
      have cz4 := hMr2.cell 4
      have cz5 := hMr2.cell 5
      have cz6 := hMr2.cell 6
      have cz7 := hMr2.cell 7
      have cz8 := hMr2.cell 8
      have fz0 := hMr2.free 0
      have fz1 := hMr2.free 1
      have fz2 := hMr2.free 2
      have fz3 := hMr2.free 3
      have fz4 := hMr2.free 4
      have fz5 := hMr2.free 5
      have fz6 := hMr2.free 6
      have fz7 := hMr2.free 7
      have fz8 := hMr2.free 8
      have hlt2 := hMr2.lt
      simp only [List.getElem?_cons_succ, List.getElem?_cons_zero] at cz0 cz1 cz2 cz3 cz4 cz5 cz6 cz7 cz8
      clear hb2)
    have hTz := (Turns.of_below hb3 (fun _ => False)).then (nine_turns (Turns.refl (fun k => k = w.heap.size + 1) w2) (g := w.heap.size + 1) (fun _ => rfl) 0 (.int .i64 0) (.int .i64 0) (.string ⟨#[]⟩) (.slice none 0 0) (.int .i64 0) (.int .i64 0) (.string ⟨#[]⟩) (.slice none 0 0) (.slice none 0 0)) (fun i hi he => by omega)
    have hMz := nine_res hMr2 (w.heap.size + 1) rfl (.int .i64 0) (.int .i64 0) (.string ⟨#[]⟩) (.slice none 0 0) (.int .i64 0) (.int .i64 0) (.string ⟨#[]⟩) (.slice none 0 0) (.slice none 0 0)
    have rz0 := hMz.cell 0
    have rz1 := hMz.cell 1
    have rz2 := hMz.cell 2
    have rz3 := hMz.cell 3
    have rz4 := hMz.cell 4
    have rz5 := hMz.cell 5
    have rz6 := hMz.cell 6
    have rz7 := hMz.cell 7
    have rz8 := hMz.cell 8
    unfold nine at rz0 rz1 rz2 rz3 rz4 rz5 rz6 rz7 rz8
    simp only [List.getElem?_cons_succ, List.getElem?_cons_zero, Nat.zero_add] at rz0 rz1 rz2 rz3 rz4 rz5 rz6 rz7 rz8
    exact bodyPost_ret (v := .tuple #[zerov, .iface 42 (.int .i64 7)]) (by simp [zerov, results, Try.results9, go_sem, rz0, rz1, rz2, rz3, rz4, rz5, rz6, rz7, rz8]) rfl ⟨fun h => by rw [hok'.out] at h; simp at h, fun _ => rfl, hTz.below (Nat.le_refl _) (fun _ h => h.elim)⟩
  · rw [hok] at hC
    obtain ⟨h1, h2, h3, h4, h5, h6, h7⟩ := TM.okt_parts hok
    have hN := Lib.hid (fun (w' : World) (q : Nat) (hb : Below w.heap.size w w') (hq : w.heap.size ≤ q) (hI : Im w' q 0 (TM.pl [])) => term_any t w w' q [] [] (t.ps ++ TM.prs t.ks) vp vi vk hT hB hb hq hI (fun _ h => h) h4 h3 ⟨[], by simp⟩ (by simpa using Nat.le_trans h7 (by omega)) (by omega))
    have hQ := Lib.hid (fun (w' : World) (S : Nat → Prop) (vp' vi' vk' : Value) (ht : TmOwn w' (fun g => g < w.heap.size) S (TM.alpha t) vp' vi' vk') (hS : ∀ g, S g → w.heap.size ≤ g) => apart_any (TM.alpha t) w' (fun g => g < w.heap.size) S vp' vi' vk' ht (fun g _ hs hd => by have := hS g hs; omega) h5 (TM.nmt_dok _ h6) (by rw [show (TM.alpha t).ks = TM.nmt (t.ps ++ TM.prs t.ks) t.ks from rfl, TM.nmt_sz]; omega))
    have hok' := Lib.hid hok
    have hpl : TM.pl [] = fun _ => 0 := by funext x; simp [TM.pl]
    have hpl' := Lib.hid hpl
    have hal : TM.nm1 (t.ps ++ TM.prs t.ks) t = TM.alpha t := rfl
    unfold NumN at hN
    rw [hal] at hN
    unfold QaN at hQ
    unfold chv tmv at hC
    unfold tmv at hN hQ
    unfold tmv
    clear hok hT hB h1 h2 h3 h4 h5 h6 h7 hpl hal
    go_enter Try.func9, Try.ntmps9
    go_wp2_with (first
      | (go_at_call 17
         refine (hC.out _ hba).mono ?_
         rintro e w2 ⟨rfl, hb2⟩
         have hb3 : Below w.heap.size w w2 := hba.trans (Below.mono hb2 (by simp; omega))
         have hM2 := hL.below hb2 hL.lt
         have hMr2 := hLr.below hb2 hLr.lt
         have hM3 := hM2.alloc (.map #[] 0)
         have hMr3 := hMr2.alloc (.map #[] 0)
         have y0 := hM3.cell 0
         have y1 := hM3.cell 1
         have y2 := hM3.cell 2
         have y3 := hM3.cell 3
         have y4 := hM3.cell 4
         have y5 := hM3.cell 5
         have y6 := hM3.cell 6
         have y7 := hM3.cell 7
         have y8 := hM3.cell 8
         simp only [List.getElem?_cons_succ, List.getElem?_cons_zero] at y0 y1 y2 y3 y4 y5 y6 y7 y8
         have hI3 : Im (w2.alloc (.map #[] 0)) w2.heap.size 0 (TM.pl []) := by rw [hpl'.out]; exact Im.made w2
         have hI3' := Lib.hid hI3
         have hsz := Lib.hid hb3.size
         have hb4 := hb3.alloc hsz.out (.map #[] 0)
         have hlt2 := hMr2.lt
         have hlt3 := hM2.lt
         clear hb2 hI3)
      | (go_at_call 19
         refine (hN.out _ _ hb4 hsz.out hI3'.out).mono ?_
         rintro e w5 ⟨vp6, vk6, rfl, hTo, -, hT5⟩
         have hMr5 := hMr3.turns hT5 (by omega)
         have hT5' := Lib.hid hT5
         have hTo' := Lib.hid hTo
         clear hT5 hTo)
      | (go_at_call 18
         refine (hQ.out _ _ _ _ _ hTo'.out (fun g hg => by simp at hg; have := hb3.size; omega)).mono ?_
         rintro e w7 ⟨vi7, rfl, hTo7, hT7⟩
         obtain ⟨P6, m6, p6, rfl⟩ : ∃ A m c, vp6 = .slice A m c := by obtain ⟨A, c, e⟩ := hTo7.tmin.p.read; exact ⟨_, _, _, e⟩
         obtain ⟨I7, l7, q7, rfl⟩ : ∃ A m c, vi7 = .slice A m c := by obtain ⟨A, c, e⟩ := hTo7.tmin.d.read; exact ⟨_, _, _, e⟩
         obtain ⟨K6, n6, r6, rfl⟩ : ∃ A m c, vk6 = .slice A m c := by obtain ⟨A, c, e⟩ := hTo7.tmin.k.read; exact ⟨_, _, _, e⟩
         have hMrX := hMr5.turns hT7 (fun h => by simp at h; omega)
         have cz0 := hMrX.cell 0
         have fz0 := hMrX.free 0
         have cz1 := hMrX.cell 1
         have fz1 := hMrX.free 1
         have cz2 := hMrX.cell 2
         have fz2 := hMrX.free 2
         have cz3 := hMrX.cell 3
         have fz3 := hMrX.free 3
         have cz4 := hMrX.cell 4
         have fz4 := hMrX.free 4
         have cz5 := hMrX.cell 5
         have fz5 := hMrX.free 5
         have cz6 := hMrX.cell 6
         have fz6 := hMrX.free 6
         have cz7 := hMrX.cell 7
         have fz7 := hMrX.free 7
         have cz8 := hMrX.cell 8
         have fz8 := hMrX.free 8
         simp only [List.getElem?_cons_succ, List.getElem?_cons_zero] at cz0 cz1 cz2 cz3 cz4 cz5 cz6 cz7 cz8
         have hltX := hMrX.lt
         have R7 := Lib.hid (And.intro hTo7 hT7)
         clear hTo7 hT7))
    obtain ⟨hTo7, hT7⟩ := R7.out
    have hs5 := hT5'.out.size
    have hTw : Turns (fun _ => False) w w7 := ((Turns.of_below hb4 (fun _ => False)).then hT5'.out (fun i hi he => by have := hb3.size; omega)).then hT7 (fun i hi he => by simp at he; have := hb3.size; omega)
    have T9 := nine_turns (Turns.refl (fun k => k = w.heap.size + 1) w7) (g := w.heap.size + 1) (fun _ => rfl) 0 (.int .i64 (TM.alpha t).k) (.int .i64 (TM.alpha t).n) (.string ⟨(TM.alpha t).s.toArray⟩) (.slice P6 m6 p6) (.int .i64 (TM.alpha t).d.k) (.int .i64 (TM.alpha t).d.n) (.string ⟨(TM.alpha t).d.s.toArray⟩) (.slice I7 l7 q7) (.slice K6 n6 r6)
    have hTz := hTw.then T9 (fun i hi he => by omega)
    have hMz := nine_res hMrX (w.heap.size + 1) rfl (.int .i64 (TM.alpha t).k) (.int .i64 (TM.alpha t).n) (.string ⟨(TM.alpha t).s.toArray⟩) (.slice P6 m6 p6) (.int .i64 (TM.alpha t).d.k) (.int .i64 (TM.alpha t).d.n) (.string ⟨(TM.alpha t).d.s.toArray⟩) (.slice I7 l7 q7) (.slice K6 n6 r6)
    have rz0 := hMz.cell 0
    have rz1 := hMz.cell 1
    have rz2 := hMz.cell 2
    have rz3 := hMz.cell 3
    have rz4 := hMz.cell 4
    have rz5 := hMz.cell 5
    have rz6 := hMz.cell 6
    have rz7 := hMz.cell 7
    have rz8 := hMz.cell 8
    unfold nine at rz0 rz1 rz2 rz3 rz4 rz5 rz6 rz7 rz8
    simp only [List.getElem?_cons_succ, List.getElem?_cons_zero, Nat.zero_add] at rz0 rz1 rz2 rz3 rz4 rz5 rz6 rz7 rz8
    have hFin := (hTo7.turns T9 (fun g _ hs he => by simp at hs; omega) (fun g _ hs he => by simp at hs hs5; omega)).tmin
    exact bodyPost_ret (v := .tuple #[.agg #[.int .i64 (TM.alpha t).k, .int .i64 (TM.alpha t).n, .string ⟨(TM.alpha t).s.toArray⟩, .slice P6 m6 p6, .int .i64 (TM.alpha t).d.k, .int .i64 (TM.alpha t).d.n, .string ⟨(TM.alpha t).d.s.toArray⟩, .slice I7 l7 q7, .slice K6 n6 r6], .nilIface]) (by simp [results, Try.results9, go_sem, rz0, rz1, rz2, rz3, rz4, rz5, rz6, rz7, rz8]) rfl ⟨fun _ => ⟨_, _, _, rfl, hFin⟩, fun h => by rw [hok'.out] at h; simp at h, hTz.below (Nat.le_refl _) (fun _ h => h.elim)⟩
end Go.Proofs.Ytpiekdcbjkgipaa
