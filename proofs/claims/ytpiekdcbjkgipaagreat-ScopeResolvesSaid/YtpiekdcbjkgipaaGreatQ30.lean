/- Package term: what Alpha answers is one's own: its rows lie in new blocks, its data in other new ones. -/
import Derived.Test.YtpiekdcbjkgipaaGreatQ27
import Derived.Test.YtpiekdcbjkgipaaGreatQ29
namespace Go.Proofs.YtpiekdcbjkgipaaGreat
open Go.ChangeShapes Go.WideShapes Go.ChangeAt Go.RowKit Go.Deep
open TM (Tl Tm)

def AlO (t : Tm) (w : World) (e : Ending) (w' : World) : Prop :=
  (TM.okt t = true → ∃ vp vi vk, e = .returned (.tuple #[tmv (TM.alpha t) vp vi vk, .nilIface]) ∧ ∃ D S : Nat → Prop, TmOwn w' D S (TM.alpha t) vp vi vk ∧ (∀ g, S g → w.heap.size ≤ g) ∧ (∀ g, D g → w.heap.size ≤ g) ∧ (∀ g, S g → D g → False)) ∧ (TM.okt t = false → e = .returned (.tuple #[zerov, .iface 38 (.int .i64 7)])) ∧ Went w w'
set_option maxRecDepth 100000 in
set_option maxHeartbeats 4000000 in
theorem alpha_own (t : Tm) (w : World) (vp vi vk : Value) (hT : TmIn w t vp vi vk) (hB : TmBd t) :
    Calls Tryz.prog 16 #[tmv t vp vi vk] w (AlO t w) := by
  have hC := Lib.hid (fun (w' : World) (hb : Below w.heap.size w w') => tcheck_any t w' vp vi vk (hT.below hb) hB)
  have hmm := @run_makeMap Tryz.prog
  have hL := (Lies.made w 28 #[.int .i64 t.k, .int .i64 t.n, .string ⟨t.s.toArray⟩, vp, .int .i64 t.d.k, .int .i64 t.d.n, .string ⟨t.d.s.toArray⟩, vi, vk]).alloc (.cells #[.int .i64 0, .int .i64 0, .string ⟨#[]⟩, .slice none 0 0, .int .i64 0, .int .i64 0, .string ⟨#[]⟩, .slice none 0 0, .slice none 0 0] 28)
  have hz1 : (w.alloc (.cells #[.int .i64 t.k, .int .i64 t.n, .string ⟨t.s.toArray⟩, vp, .int .i64 t.d.k, .int .i64 t.d.n, .string ⟨t.d.s.toArray⟩, vi, vk] 28)).heap.size = w.heap.size + 1 := by simp
  have hLr := Lies.made (w.alloc (.cells #[.int .i64 t.k, .int .i64 t.n, .string ⟨t.s.toArray⟩, vp, .int .i64 t.d.k, .int .i64 t.d.n, .string ⟨t.d.s.toArray⟩, vi, vk] 28)) 28 #[.int .i64 0, .int .i64 0, .string ⟨#[]⟩, .slice none 0 0, .int .i64 0, .int .i64 0, .string ⟨#[]⟩, .slice none 0 0, .slice none 0 0]
  rw [hz1] at hLr
  have hba : Below w.heap.size w ((w.alloc (.cells #[.int .i64 t.k, .int .i64 t.n, .string ⟨t.s.toArray⟩, vp, .int .i64 t.d.k, .int .i64 t.d.n, .string ⟨t.d.s.toArray⟩, vi, vk] 28)).alloc (.cells #[.int .i64 0, .int .i64 0, .string ⟨#[]⟩, .slice none 0 0, .int .i64 0, .int .i64 0, .string ⟨#[]⟩, .slice none 0 0, .slice none 0 0] 28)) :=
    ((Below.refl _ w).alloc (Nat.le_refl _) _).alloc (by simp) _
  clear hz1
  cases hok : TM.okt t
  · rw [hok] at hC
    have hok' := Lib.hid hok
    unfold chv tmv at hC
    unfold tmv
    clear hok hT hB
    go_enter Tryz.func16, Tryz.ntmps16
    go_wp2_with (
      go_at_call 34
      refine (hC.out _ hba).mono ?_
      rintro e w2 ⟨rfl, hb2⟩
      have hb3 : Below w.heap.size w w2 := hba.trans (Below.mono hb2 (by simp; omega))
      have hMr2 := hLr.below hb2 hLr.lt
      have cz0 := hMr2.cell 0
      have cz1 := hMr2.cell 1
      have cz2 := hMr2.cell 2
      have cz3 := hMr2.cell 3
      have cz4 := hMr2.cell 4
      have cz5 := hMr2.cell 5
      have cz6 := hMr2.cell 6
      have cz7 := hMr2.cell 7
      have cz8 := hMr2.cell 8
      have fz0 := hMr2.free 0
      have fz1 := hMr2.free 1
      have fz2 := hMr2.free 2
      have fz3 := hMr2.free 3
      have fz4 := hMr2.free 4
      have fz5 := hMr2.free 5
      have fz6 := hMr2.free 6
      have fz7 := hMr2.free 7
      have fz8 := hMr2.free 8
      have hlt2 := hMr2.lt
      simp only [List.getElem?_cons_succ, List.getElem?_cons_zero] at cz0 cz1 cz2 cz3 cz4 cz5 cz6 cz7 cz8
      clear hb2)
    have hTz := (Turns.of_below hb3 (fun _ => False)).then (nine_turns (Turns.refl (fun k => k = w.heap.size + 1) w2) (g := w.heap.size + 1) (fun _ => rfl) 0 (.int .i64 0) (.int .i64 0) (.string ⟨#[]⟩) (.slice none 0 0) (.int .i64 0) (.int .i64 0) (.string ⟨#[]⟩) (.slice none 0 0) (.slice none 0 0)) (fun i hi he => by omega)
    have hMz := nine_res hMr2 (w.heap.size + 1) rfl (.int .i64 0) (.int .i64 0) (.string ⟨#[]⟩) (.slice none 0 0) (.int .i64 0) (.int .i64 0) (.string ⟨#[]⟩) (.slice none 0 0) (.slice none 0 0)
    have rz0 := hMz.cell 0
    have rz1 := hMz.cell 1
    have rz2 := hMz.cell 2
    have rz3 := hMz.cell 3
    have rz4 := hMz.cell 4
    have rz5 := hMz.cell 5
    have rz6 := hMz.cell 6
    have rz7 := hMz.cell 7
    have rz8 := hMz.cell 8
    unfold nine at rz0 rz1 rz2 rz3 rz4 rz5 rz6 rz7 rz8
    simp only [List.getElem?_cons_succ, List.getElem?_cons_zero, Nat.zero_add] at rz0 rz1 rz2 rz3 rz4 rz5 rz6 rz7 rz8
    exact bodyPost_ret (v := .tuple #[zerov, .iface 38 (.int .i64 7)]) (by simp [zerov, results, Tryz.results16, go_sem, rz0, rz1, rz2, rz3, rz4, rz5, rz6, rz7, rz8]) rfl ⟨fun h => by rw [hok'.out] at h; simp at h, fun _ => rfl, hTz.below (Nat.le_refl _) (fun _ h => h.elim)⟩
  · rw [hok] at hC
    obtain ⟨h1, h2, h3, h4, h5, h6, h7⟩ := TM.okt_parts hok
    have hN := Lib.hid (fun (w' : World) (q : Nat) (hb : Below w.heap.size w w') (hq : w.heap.size ≤ q) (hI : Im w' q 0 (TM.pl [])) => term_any t w w' q [] [] (t.ps ++ TM.prs t.ks) vp vi vk hT hB hb hq hI (fun _ h => h) h4 h3 ⟨[], by simp⟩ (by simpa using Nat.le_trans h7 (by omega)) (by omega))
    have hQ := Lib.hid (fun (w' : World) (S : Nat → Prop) (vp' vi' vk' : Value) (ht : TmOwn w' (fun g => g < w.heap.size) S (TM.alpha t) vp' vi' vk') (hS : ∀ g, S g → w.heap.size ≤ g) => apart_any (TM.alpha t) w' (fun g => g < w.heap.size) S vp' vi' vk' ht (fun g _ hs hd => by have := hS g hs; omega) h5 (TM.nmt_dok _ h6) (by rw [show (TM.alpha t).ks = TM.nmt (t.ps ++ TM.prs t.ks) t.ks from rfl, TM.nmt_sz]; omega))
    have hok' := Lib.hid hok
    have hpl : TM.pl [] = fun _ => 0 := by funext x; simp [TM.pl]
    have hpl' := Lib.hid hpl
    have hal : TM.nm1 (t.ps ++ TM.prs t.ks) t = TM.alpha t := rfl
    unfold NumN at hN
    rw [hal] at hN
    unfold QaN at hQ
    unfold chv tmv at hC
    unfold tmv at hN hQ
    unfold tmv
    clear hok hT hB h1 h2 h3 h4 h5 h6 h7 hpl hal
    go_enter Tryz.func16, Tryz.ntmps16
    go_wp2_with (first
      | (go_at_call 34
         refine (hC.out _ hba).mono ?_
         rintro e w2 ⟨rfl, hb2⟩
         have hb3 : Below w.heap.size w w2 := hba.trans (Below.mono hb2 (by simp; omega))
         have hM2 := hL.below hb2 hL.lt
         have hMr2 := hLr.below hb2 hLr.lt
         have hM3 := hM2.alloc (.map #[] 0)
         have hMr3 := hMr2.alloc (.map #[] 0)
         have y0 := hM3.cell 0
         have y1 := hM3.cell 1
         have y2 := hM3.cell 2
         have y3 := hM3.cell 3
         have y4 := hM3.cell 4
         have y5 := hM3.cell 5
         have y6 := hM3.cell 6
         have y7 := hM3.cell 7
         have y8 := hM3.cell 8
         simp only [List.getElem?_cons_succ, List.getElem?_cons_zero] at y0 y1 y2 y3 y4 y5 y6 y7 y8
         have hI3 : Im (w2.alloc (.map #[] 0)) w2.heap.size 0 (TM.pl []) := by rw [hpl'.out]; exact Im.made w2
         have hI3' := Lib.hid hI3
         have hsz := Lib.hid hb3.size
         have hb4 := hb3.alloc hsz.out (.map #[] 0)
         have hlt2 := hMr2.lt
         have hlt3 := hM2.lt
         clear hb2 hI3)
      | (go_at_call 36
         refine (hN.out _ _ hb4 hsz.out hI3'.out).mono ?_
         rintro e w5 ⟨vp6, vk6, rfl, hTo, -, hT5⟩
         have hMr5 := hMr3.turns hT5 (by omega)
         replace hTo := hTo.mono (S' := fun g => w2.heap.size ≤ g ∧ g < w5.heap.size) (fun g hg hs => ⟨by simp at hs; omega, hg⟩)
         have hT5' := Lib.hid hT5
         have hTo' := Lib.hid hTo
         clear hT5 hTo)
      | (go_at_call 35
         refine (hQ.out _ _ _ _ _ hTo'.out (fun g hg => by have := hg.1; have := hb3.size; omega)).mono ?_
         rintro e w7 ⟨vi7, rfl, hTo7, hT7⟩
         obtain ⟨P6, m6, p6, rfl⟩ : ∃ A m c, vp6 = .slice A m c := by obtain ⟨A, c, e⟩ := hTo7.tmin.p.read; exact ⟨_, _, _, e⟩
         obtain ⟨I7, l7, q7, rfl⟩ : ∃ A m c, vi7 = .slice A m c := by obtain ⟨A, c, e⟩ := hTo7.tmin.d.read; exact ⟨_, _, _, e⟩
         obtain ⟨K6, n6, r6, rfl⟩ : ∃ A m c, vk6 = .slice A m c := by obtain ⟨A, c, e⟩ := hTo7.tmin.k.read; exact ⟨_, _, _, e⟩
         have hMrX := hMr5.turns hT7 (fun h => by have := h.1; omega)
         have cz0 := hMrX.cell 0
         have fz0 := hMrX.free 0
         have cz1 := hMrX.cell 1
         have fz1 := hMrX.free 1
         have cz2 := hMrX.cell 2
         have fz2 := hMrX.free 2
         have cz3 := hMrX.cell 3
         have fz3 := hMrX.free 3
         have cz4 := hMrX.cell 4
         have fz4 := hMrX.free 4
         have cz5 := hMrX.cell 5
         have fz5 := hMrX.free 5
         have cz6 := hMrX.cell 6
         have fz6 := hMrX.free 6
         have cz7 := hMrX.cell 7
         have fz7 := hMrX.free 7
         have cz8 := hMrX.cell 8
         have fz8 := hMrX.free 8
         simp only [List.getElem?_cons_succ, List.getElem?_cons_zero] at cz0 cz1 cz2 cz3 cz4 cz5 cz6 cz7 cz8
         have hltX := hMrX.lt
         have R7 := Lib.hid (And.intro hTo7 hT7)
         clear hTo7 hT7))
    obtain ⟨hTo7, hT7⟩ := R7.out
    have hs5 := hT5'.out.size
    have hTw : Turns (fun _ => False) w w7 := ((Turns.of_below hb4 (fun _ => False)).then hT5'.out (fun i hi he => by have := hb3.size; omega)).then hT7 (fun i hi he => by have := he.1; have := hb3.size; omega)
    have T9 := nine_turns (Turns.refl (fun k => k = w.heap.size + 1) w7) (g := w.heap.size + 1) (fun _ => rfl) 0 (.int .i64 (TM.alpha t).k) (.int .i64 (TM.alpha t).n) (.string ⟨(TM.alpha t).s.toArray⟩) (.slice P6 m6 p6) (.int .i64 (TM.alpha t).d.k) (.int .i64 (TM.alpha t).d.n) (.string ⟨(TM.alpha t).d.s.toArray⟩) (.slice I7 l7 q7) (.slice K6 n6 r6)
    have hTz := hTw.then T9 (fun i hi he => by omega)
    have hMz := nine_res hMrX (w.heap.size + 1) rfl (.int .i64 (TM.alpha t).k) (.int .i64 (TM.alpha t).n) (.string ⟨(TM.alpha t).s.toArray⟩) (.slice P6 m6 p6) (.int .i64 (TM.alpha t).d.k) (.int .i64 (TM.alpha t).d.n) (.string ⟨(TM.alpha t).d.s.toArray⟩) (.slice I7 l7 q7) (.slice K6 n6 r6)
    have rz0 := hMz.cell 0
    have rz1 := hMz.cell 1
    have rz2 := hMz.cell 2
    have rz3 := hMz.cell 3
    have rz4 := hMz.cell 4
    have rz5 := hMz.cell 5
    have rz6 := hMz.cell 6
    have rz7 := hMz.cell 7
    have rz8 := hMz.cell 8
    unfold nine at rz0 rz1 rz2 rz3 rz4 rz5 rz6 rz7 rz8
    simp only [List.getElem?_cons_succ, List.getElem?_cons_zero, Nat.zero_add] at rz0 rz1 rz2 rz3 rz4 rz5 rz6 rz7 rz8
    have hFin := hTo7.turns T9 (fun g _ hs he => by have := hs.1; omega) (fun g _ hs he => by simp at hs hs5; omega)
    exact bodyPost_ret (v := .tuple #[.agg #[.int .i64 (TM.alpha t).k, .int .i64 (TM.alpha t).n, .string ⟨(TM.alpha t).s.toArray⟩, .slice P6 m6 p6, .int .i64 (TM.alpha t).d.k, .int .i64 (TM.alpha t).d.n, .string ⟨(TM.alpha t).d.s.toArray⟩, .slice I7 l7 q7, .slice K6 n6 r6], .nilIface]) (by simp [results, Tryz.results16, go_sem, rz0, rz1, rz2, rz3, rz4, rz5, rz6, rz7, rz8]) rfl ⟨fun _ => ⟨_, _, _, rfl, _, _, hFin, fun g hg => by have := hg.1; have := hb3.size; omega, fun g hg => by have h1 : w5.heap.size ≤ g := hg; have := hb3.size; simp at hs5; omega, fun g hs hd => by have h1 : w5.heap.size ≤ g := hd; have := hs.2; omega⟩, fun h => by rw [hok'.out] at h; simp at h, hTz.below (Nat.le_refl _) (fun _ h => h.elim)⟩
end Go.Proofs.YtpiekdcbjkgipaaGreat

/- Package scope: Place, Resolve. -/
namespace Go.Proofs.YtpiekdcbjkgipaaGreat
open Go.ChangeShapes Go.WideShapes Go.ChangeAt Go.RowKit Go.Deep
open TM (Tl Tm)

set_option maxRecDepth 100000 in
theorem place_yes (w : World) (n : Int) (h0 : 0 ≤ n) (h : b64 n) :
    Calls Tryz.prog 17 #[.int .i64 n] w fun e w' => e = .returned (.tuple #[.int .i64 (n / 32), .int .i64 (n % 32)]) ∧ w' = w := by
  unfold b64 at h
  obtain ⟨m, rfl⟩ : ∃ m : Nat, n = (m : Int) := ⟨n.toNat, by omega⟩
  go_enter Tryz.func17, Tryz.ntmps17
  go_wp2_with fail
  go_ret2
  exact ⟨rfl, rfl⟩
set_option maxRecDepth 100000 in
theorem place_no (w : World) (n : Int) (h0 : n < 0) (h : b64 n) :
    Calls Tryz.prog 17 #[.int .i64 n] w fun e w' => e = .returned (.tuple #[.int .i64 0, .int .i64 0]) ∧ w' = w := by
  unfold b64 at h
  have e := Lib.hid (show max n 0 = 0 by omega)
  go_enter Tryz.func17, Tryz.ntmps17
  go_wp2_with fail
  rw [e.out]
  go_ret2
  exact ⟨rfl, rfl⟩
def RsO (t : Tm) (w : World) (e : Ending) (w' : World) : Prop :=
  (TM.okt t = true → ∃ vp vi vk, e = .returned (.tuple #[tmv (SC.res t) vp vi vk, .nilIface]) ∧ TmIn w' (SC.res t) vp vi vk) ∧ (TM.okt t = false → e = .returned (.tuple #[zerov, .iface 38 (.int .i64 7)])) ∧ Went w w'
set_option maxRecDepth 100000 in
set_option maxHeartbeats 4000000 in
theorem sresolve_any (t : Tm) (w : World) (vp vi vk : Value) (hT : TmIn w t vp vi vk) (hB : TmBd t) :
    Calls Tryz.prog 7 #[tmv t vp vi vk] w (RsO t w) := by
  have hC := Lib.hid (fun (w' : World) (hb : Below w.heap.size w w') => alpha_own t w' vp vi vk (hT.below hb) hB)
  obtain ⟨P3, p3, rfl⟩ := hT.p.read
  obtain ⟨I7, q7, rfl⟩ := hT.d.read
  obtain ⟨A1, c1, rfl⟩ := hT.k.read
  have hL := (Lies.made w 28 #[.int .i64 t.k, .int .i64 t.n, .string ⟨t.s.toArray⟩, .slice P3 t.ps.length p3, .int .i64 t.d.k, .int .i64 t.d.n, .string ⟨t.d.s.toArray⟩, .slice I7 t.d.is.len q7, .slice A1 t.ks.len c1]).alloc (.cells #[.int .i64 0, .int .i64 0, .string ⟨#[]⟩, .slice none 0 0, .int .i64 0, .int .i64 0, .string ⟨#[]⟩, .slice none 0 0, .slice none 0 0] 28)
  have hz1 : (w.alloc (.cells #[.int .i64 t.k, .int .i64 t.n, .string ⟨t.s.toArray⟩, .slice P3 t.ps.length p3, .int .i64 t.d.k, .int .i64 t.d.n, .string ⟨t.d.s.toArray⟩, .slice I7 t.d.is.len q7, .slice A1 t.ks.len c1] 28)).heap.size = w.heap.size + 1 := by simp
  have hLr := Lies.made (w.alloc (.cells #[.int .i64 t.k, .int .i64 t.n, .string ⟨t.s.toArray⟩, .slice P3 t.ps.length p3, .int .i64 t.d.k, .int .i64 t.d.n, .string ⟨t.d.s.toArray⟩, .slice I7 t.d.is.len q7, .slice A1 t.ks.len c1] 28)) 28 #[.int .i64 0, .int .i64 0, .string ⟨#[]⟩, .slice none 0 0, .int .i64 0, .int .i64 0, .string ⟨#[]⟩, .slice none 0 0, .slice none 0 0]
  rw [hz1] at hLr
  have hba : Below w.heap.size w ((w.alloc (.cells #[.int .i64 t.k, .int .i64 t.n, .string ⟨t.s.toArray⟩, .slice P3 t.ps.length p3, .int .i64 t.d.k, .int .i64 t.d.n, .string ⟨t.d.s.toArray⟩, .slice I7 t.d.is.len q7, .slice A1 t.ks.len c1] 28)).alloc (.cells #[.int .i64 0, .int .i64 0, .string ⟨#[]⟩, .slice none 0 0, .int .i64 0, .int .i64 0, .string ⟨#[]⟩, .slice none 0 0, .slice none 0 0] 28)) :=
    ((Below.refl _ w).alloc (Nat.le_refl _) _).alloc (by simp) _
  obtain ⟨W1, hW1⟩ : ∃ W1, (w.alloc (.cells #[.int .i64 t.k, .int .i64 t.n, .string ⟨t.s.toArray⟩, .slice P3 t.ps.length p3, .int .i64 t.d.k, .int .i64 t.d.n, .string ⟨t.d.s.toArray⟩, .slice I7 t.d.is.len q7, .slice A1 t.ks.len c1] 28)).alloc (.cells #[.int .i64 0, .int .i64 0, .string ⟨#[]⟩, .slice none 0 0, .int .i64 0, .int .i64 0, .string ⟨#[]⟩, .slice none 0 0, .slice none 0 0] 28) = W1 := ⟨_, rfl⟩
  have hs1 : W1.heap.size = w.heap.size + 2 := by rw [← hW1]; simp
  rw [hW1] at hL hLr hba
  have y0 := hL.cell 0
  have y1 := hL.cell 1
  have y2 := hL.cell 2
  have y3 := hL.cell 3
  have y4 := hL.cell 4
  have y5 := hL.cell 5
  have y6 := hL.cell 6
  have y7 := hL.cell 7
  have y8 := hL.cell 8
  simp only [List.getElem?_cons_succ, List.getElem?_cons_zero] at y0 y1 y2 y3 y4 y5 y6 y7 y8
  have hC1 := Lib.hid (hC.out _ hba)
  clear hz1 hC
  cases hok : TM.okt t
  · have hok' := Lib.hid hok
    unfold AlO zerov tmv at hC1
    unfold tmv
    clear hok hT hB
    go_enter Tryz.func7, Tryz.ntmps7
    go_upto_region 2 with (
      go_at_call 16
      refine hC1.out.mono ?_
      rintro e w2 ⟨-, hno, hb2⟩
      obtain rfl := hno hok'.out
      have hM2 := hL.below hb2 hL.lt
      have hMr2 := hLr.below hb2 hLr.lt
      have d0 := hM2.cell 0
      have d1 := hM2.cell 1
      have d2 := hM2.cell 2
      have d3 := hM2.cell 3
      have d4 := hM2.cell 4
      have d5 := hM2.cell 5
      have d6 := hM2.cell 6
      have d7 := hM2.cell 7
      have d8 := hM2.cell 8
      have g0 := hM2.free 0
      have g1 := hM2.free 1
      have g2 := hM2.free 2
      have g3 := hM2.free 3
      have g4 := hM2.free 4
      have g5 := hM2.free 5
      have g6 := hM2.free 6
      have g7 := hM2.free 7
      have g8 := hM2.free 8
      have cz0 := hMr2.cell 0
      have cz1 := hMr2.cell 1
      have cz2 := hMr2.cell 2
      have cz3 := hMr2.cell 3
      have cz4 := hMr2.cell 4
      have cz5 := hMr2.cell 5
      have cz6 := hMr2.cell 6
      have cz7 := hMr2.cell 7
      have cz8 := hMr2.cell 8
      have fz0 := hMr2.free 0
      have fz1 := hMr2.free 1
      have fz2 := hMr2.free 2
      have fz3 := hMr2.free 3
      have fz4 := hMr2.free 4
      have fz5 := hMr2.free 5
      have fz6 := hMr2.free 6
      have fz7 := hMr2.free 7
      have fz8 := hMr2.free 8
      simp only [List.getElem?_cons_succ, List.getElem?_cons_zero] at d0 d1 d2 d3 d4 d5 d6 d7 d8 cz0 cz1 cz2 cz3 cz4 cz5 cz6 cz7 cz8
      have hlt2 := hM2.lt
      have hlt3 := hMr2.lt
      have R2 := Lib.hid (And.intro hM2 (And.intro hMr2 hb2))
      clear hb2 hM2 hMr2 hno)
    obtain ⟨hM2, hMr2, hb2⟩ := R2.out
    clear d0 g0 cz0 fz0 d1 g1 cz1 fz1 d2 g2 cz2 fz2 d3 g3 cz3 fz3 d4 g4 cz4 fz4 d5 g5 cz5 fz5 d6 g6 cz6 fz6 d7 g7 cz7 fz7 d8 g8 cz8 fz8 R2 hlt2 hlt3
    generalize hW3 : World.setCell _ _ _ = W3
    have hMr3 : Lies W3 (w.heap.size + 1) 28 [.int .i64 0, .int .i64 0, .string ⟨#[]⟩, .slice none 0 0, .int .i64 0, .int .i64 0, .string ⟨#[]⟩, .slice none 0 0, .slice none 0 0] := by rw [← hW3]; exact nine_far hMr2 (g := w.heap.size) (by omega) 0 (.int .i64 0) (.int .i64 0) (.string ⟨#[]⟩) (.slice none 0 0) (.int .i64 0) (.int .i64 0) (.string ⟨#[]⟩) (.slice none 0 0) (.slice none 0 0)
    have hT3 : Turns (fun _ => False) w W3 := by
      rw [← hW3]
      exact (Turns.of_below (hba.trans (hb2.mono (by omega))) (fun _ => False)).then (nine_turns (Turns.refl (fun k => k = w.heap.size) w2) (g := w.heap.size) (fun _ => rfl) 0 (.int .i64 0) (.int .i64 0) (.string ⟨#[]⟩) (.slice none 0 0) (.int .i64 0) (.int .i64 0) (.string ⟨#[]⟩) (.slice none 0 0) (.slice none 0 0)) (fun i hi he => by omega)
    have hlt3 := hMr3.lt
    have cz0 := hMr3.cell 0
    have cz1 := hMr3.cell 1
    have cz2 := hMr3.cell 2
    have cz3 := hMr3.cell 3
    have cz4 := hMr3.cell 4
    have cz5 := hMr3.cell 5
    have cz6 := hMr3.cell 6
    have cz7 := hMr3.cell 7
    have cz8 := hMr3.cell 8
    have fz0 := hMr3.free 0
    have fz1 := hMr3.free 1
    have fz2 := hMr3.free 2
    have fz3 := hMr3.free 3
    have fz4 := hMr3.free 4
    have fz5 := hMr3.free 5
    have fz6 := hMr3.free 6
    have fz7 := hMr3.free 7
    have fz8 := hMr3.free 8
    simp only [List.getElem?_cons_succ, List.getElem?_cons_zero] at cz0 cz1 cz2 cz3 cz4 cz5 cz6 cz7 cz8
    have hM3' := Lib.hid hMr3
    have hT3' := Lib.hid hT3
    clear hW3 hM2 hMr2 hMr3 hT3 hL hLr hba hb2 y0 y1 y2 y3 y4 y5 y6 y7 y8 hs1 hW1
    go_wp2_with fail
    have hTz := hT3'.out.then (nine_turns (Turns.refl (fun k => k = w.heap.size + 1) W3) (g := w.heap.size + 1) (fun _ => rfl) 0 (.int .i64 0) (.int .i64 0) (.string ⟨#[]⟩) (.slice none 0 0) (.int .i64 0) (.int .i64 0) (.string ⟨#[]⟩) (.slice none 0 0) (.slice none 0 0)) (fun i hi he => by omega)
    have hMz := nine_res hM3'.out (w.heap.size + 1) rfl (.int .i64 0) (.int .i64 0) (.string ⟨#[]⟩) (.slice none 0 0) (.int .i64 0) (.int .i64 0) (.string ⟨#[]⟩) (.slice none 0 0) (.slice none 0 0)
    have rz0 := hMz.cell 0
    have rz1 := hMz.cell 1
    have rz2 := hMz.cell 2
    have rz3 := hMz.cell 3
    have rz4 := hMz.cell 4
    have rz5 := hMz.cell 5
    have rz6 := hMz.cell 6
    have rz7 := hMz.cell 7
    have rz8 := hMz.cell 8
    unfold nine at rz0 rz1 rz2 rz3 rz4 rz5 rz6 rz7 rz8
    simp only [List.getElem?_cons_succ, List.getElem?_cons_zero, Nat.zero_add] at rz0 rz1 rz2 rz3 rz4 rz5 rz6 rz7 rz8
    exact bodyPost_ret (v := .tuple #[zerov, .iface 38 (.int .i64 7)]) (by simp [zerov, results, Tryz.results7, go_sem, rz0, rz1, rz2, rz3, rz4, rz5, rz6, rz7, rz8]) rfl ⟨fun h => by rw [hok'.out] at h; simp at h, fun _ => rfl, hTz.below (Nat.le_refl _) (fun _ h => h.elim)⟩
  · have hok' := Lib.hid hok
    have hok2 := (TM.alpha_alpha hok).1
    have hcnt := SC.alpha_prs hok
    have hres := SC.res_alpha hok
    obtain ⟨b, hb⟩ : ∃ b, SC.res t = b := ⟨_, rfl⟩
    unfold RsO
    rw [hb] at hres ⊢
    clear hb
    unfold AlO tmv at hC1
    unfold tmv
    clear hok hT hB
    generalize TM.alpha t = a at hok2 hcnt hres hC1
    obtain ⟨o1, o2, o3, o4, o5, o6, o7⟩ := TM.okt_parts hok2
    have hcn2 : a.ps ++ TM.prs a.ks = SC.cnt ((([] : List (Nat × Nat)).length : Int) + 1) (a.ps ++ TM.prs a.ks).length := by
      conv => lhs; rw [hcnt]
      have e := congrArg List.length hcnt
      rw [SC.cnt_len] at e
      rw [e]; rfl
    have Q := Lib.hid (And.intro o1 (And.intro o2 (And.intro o4 (And.intro o7 (And.intro hcn2 hres)))))
    clear o1 o2 o3 o4 o5 o6 o7 hcnt hcn2 hres hok2
    go_enter Tryz.func7, Tryz.ntmps7
    go_upto_region 2 with (
      go_at_call 16
      refine hC1.out.mono ?_
      rintro e w2 ⟨hyes, -, hb2⟩
      obtain ⟨vp6, vi6, vk6, rfl, D, S, hTo, hS, hD, hSD⟩ := hyes hok'.out
      obtain ⟨P6, m6, p6, rfl⟩ : ∃ A m c, vp6 = .slice A m c := by obtain ⟨A, c, e⟩ := hTo.tmin.p.read; exact ⟨_, _, _, e⟩
      obtain ⟨I6, l7, q6, rfl⟩ : ∃ A m c, vi6 = .slice A m c := by obtain ⟨A, c, e⟩ := hTo.tmin.d.read; exact ⟨_, _, _, e⟩
      obtain ⟨K6, n6, r6, rfl⟩ : ∃ A m c, vk6 = .slice A m c := by obtain ⟨A, c, e⟩ := hTo.tmin.k.read; exact ⟨_, _, _, e⟩
      have hM2 := hL.below hb2 hL.lt
      have hMr2 := hLr.below hb2 hLr.lt
      have d0 := hM2.cell 0
      have d1 := hM2.cell 1
      have d2 := hM2.cell 2
      have d3 := hM2.cell 3
      have d4 := hM2.cell 4
      have d5 := hM2.cell 5
      have d6 := hM2.cell 6
      have d7 := hM2.cell 7
      have d8 := hM2.cell 8
      have g0 := hM2.free 0
      have g1 := hM2.free 1
      have g2 := hM2.free 2
      have g3 := hM2.free 3
      have g4 := hM2.free 4
      have g5 := hM2.free 5
      have g6 := hM2.free 6
      have g7 := hM2.free 7
      have g8 := hM2.free 8
      simp only [List.getElem?_cons_succ, List.getElem?_cons_zero] at d0 d1 d2 d3 d4 d5 d6 d7 d8
      have hlt2 := hM2.lt
      have R2 := Lib.hid (And.intro hM2 (And.intro hMr2 (And.intro hb2 (And.intro hTo (And.intro hS (And.intro hD hSD))))))
      clear hb2 hM2 hMr2 hyes hTo hS hD hSD)
    obtain ⟨hM2, hMr2, hb2, hTo, hS, hD, hSD⟩ := R2.out
    clear d0 g0 d1 g1 d2 g2 d3 g3 d4 g4 d5 g5 d6 g6 d7 g7 d8 g8 R2 hlt2
    generalize hW3 : World.setCell _ _ _ = W3
    have hM3 : Lies W3 w.heap.size 28 [.int .i64 a.k, .int .i64 a.n, .string ⟨a.s.toArray⟩, .slice P6 m6 p6, .int .i64 a.d.k, .int .i64 a.d.n, .string ⟨a.d.s.toArray⟩, .slice I6 l7 q6, .slice K6 n6 r6] := by rw [← hW3]; exact nine_res hM2 w.heap.size rfl (.int .i64 a.k) (.int .i64 a.n) (.string ⟨a.s.toArray⟩) (.slice P6 m6 p6) (.int .i64 a.d.k) (.int .i64 a.d.n) (.string ⟨a.d.s.toArray⟩) (.slice I6 l7 q6) (.slice K6 n6 r6)
    have hMr3 : Lies W3 (w.heap.size + 1) 28 [.int .i64 0, .int .i64 0, .string ⟨#[]⟩, .slice none 0 0, .int .i64 0, .int .i64 0, .string ⟨#[]⟩, .slice none 0 0, .slice none 0 0] := by rw [← hW3]; exact nine_far hMr2 (g := w.heap.size) (by omega) 0 (.int .i64 a.k) (.int .i64 a.n) (.string ⟨a.s.toArray⟩) (.slice P6 m6 p6) (.int .i64 a.d.k) (.int .i64 a.d.n) (.string ⟨a.d.s.toArray⟩) (.slice I6 l7 q6) (.slice K6 n6 r6)
    have hTn : Turns (fun k => k = w.heap.size) w2 W3 := by rw [← hW3]; exact nine_turns (Turns.refl (fun k => k = w.heap.size) w2) (g := w.heap.size) (fun _ => rfl) 0 (.int .i64 a.k) (.int .i64 a.n) (.string ⟨a.s.toArray⟩) (.slice P6 m6 p6) (.int .i64 a.d.k) (.int .i64 a.d.n) (.string ⟨a.d.s.toArray⟩) (.slice I6 l7 q6) (.slice K6 n6 r6)
    have hT3 : Turns (fun _ => False) w W3 := (Turns.of_below (hba.trans (hb2.mono (by omega))) (fun _ => False)).then hTn (fun i hi he => by omega)
    have hO3 := hTo.turns hTn (fun g _ hs he => by have := hS g hs; omega) (fun g _ hs he => by have := hD g hs; omega)
    have hs3 := hMr3.lt
    have hlr3 := hTn.size
    have hb22 := hb2.size
    -- the world in which resolve is called
    obtain ⟨W5, hW5⟩ : ∃ W5, (W3.alloc (.cells #[] 105)).alloc (.cells #[.slice (some ⟨W3.heap.size, 0, none⟩) 0 0] 48) = W5 := ⟨_, rfl⟩
    have hz5 : (W3.alloc (.cells #[] 105)).heap.size = W3.heap.size + 1 := by simp
    have hH5 : Hs W5 (W3.heap.size + 1) (.slice (some ⟨W3.heap.size, 0, none⟩) 0 0) [] := by
      refine ⟨?_, ?_, fun p h => by simp at h⟩
      · rw [← hW5, ← hz5]; exact Lies.made _ _ _
      · rw [← hW5]
        have h0 := World.ownsRow_lit (base := 0) (e := 105) (size := 2) W3 #[] 0 (Nat.zero_le _) (by decide) rfl
        exact own_below h0 ((Below.refl _ _).alloc (Nat.le_refl _) _)
    have hb5 : Below W3.heap.size W3 W5 := by rw [← hW5]; exact ((Below.refl _ W3).alloc (Nat.le_refl _) _).alloc (by simp) _
    have hs5 := hb5.size
    have hM5 := hM3.below hb5 hM3.lt
    have hMr5 := hMr3.below hb5 hMr3.lt
    have hO5 := ((hO3.mono (S' := fun g => S g ∧ g < W3.heap.size) (fun g hg hs => ⟨hs, hg⟩)).dmono (D' := fun g => D g ∧ g < W3.heap.size) (fun g hg hs => ⟨hs, hg⟩)).below hb5
    have hvn : ∀ b, b < W3.heap.size → (Value.slice (some ⟨W3.heap.size, 0, none⟩) 0 0).ownBlock ≠ some b := fun b hb e => by
      have : W3.heap.size = b := by simpa [Value.ownBlock] using e
      omega
    have hCr : Calls Tryz.prog 22 #[.pointer (some ⟨W3.heap.size + 1, 0, none⟩), .pointer (some ⟨w.heap.size, 0, none⟩), .int .i64 0] W5 (RvN W5 (fun g => D g ∧ g < W3.heap.size) (fun g => S g ∧ g < W3.heap.size) (W3.heap.size + 1) w.heap.size (.slice (some ⟨W3.heap.size, 0, none⟩) 0 0) (.slice P6 m6 p6) (.slice I6 l7 q6) (.slice K6 n6 r6) [] [] [] [] a) := by
      refine resolve_any a W5 _ _ _ _ 0 _ _ _ _ [] [] [] [] [] (by simpa [tcells] using hM5) rfl hO5 hH5 (fun b hb => ?_) (fun b hb => ?_) (SC.HOk.nil _) (by simp) Q.out.2.2.1 Q.out.2.2.2.2.1 (by have := Q.out.2.1; simp; omega) (by have := Q.out.2.2.2.1; simpa using this) (by have := Q.out.1; omega)
      · have := hS b hb.1
        exact ⟨by omega, by omega, by omega, hvn b hb.2, fun hd => hSD b hb.1 hd.1⟩
      · have := hD b hb.1
        exact ⟨by omega, by omega, by omega, hvn b hb.2⟩
    have hb0 : Below w.heap.size w W5 := (hT3.below (Nat.le_refl _) (fun _ h => h.elim)).trans (hb5.mono (by omega))
    have hS' := Lib.hid hS
    have hD' := Lib.hid hD
    have hMr5' := Lib.hid hMr5
    have hCr' := Lib.hid hCr
    have hb0' := Lib.hid hb0
    clear hW3 hM2 hMr2 hb2 hTo hS hD hSD hM3 hMr3 hTn hT3 hO3 hH5 hb5 hM5 hMr5 hO5 hCr hvn hL hLr hba hW1 y0 y1 y2 y3 y4 y5 y6 y7 y8 hb0
    go_upto_region 5 with (
      go_at_call 22
      refine hCr'.out.mono ?_
      rintro e w6 ⟨rfl, v', hM6, hO6, -, -, hT6⟩
      have R6 := Lib.hid (And.intro hM6 (And.intro hO6 hT6))
      clear hM6 hO6 hT6)
    obtain ⟨hM6, hO6, hT6⟩ := R6.out
    have hrs : SC.rs1 [] a = b := Q.out.2.2.2.2.2
    rw [hrs] at hM6 hO6
    have hM7 : Lies w6 w.heap.size 28 [.int .i64 b.k, .int .i64 b.n, .string ⟨b.s.toArray⟩, .slice P6 m6 p6, .int .i64 b.d.k, .int .i64 b.d.n, .string ⟨b.d.s.toArray⟩, .slice I6 l7 q6, .slice K6 n6 r6] := by simpa [tcells] using hM6
    have hMr6 := hMr5'.out.turns hT6 (by
      rintro (e | e | e | e)
      · omega
      · have : W3.heap.size = w.heap.size + 1 := by simpa [Value.ownBlock] using e
        omega
      · omega
      · have := hS'.out _ e.1; omega)
    have hb6 : Below w.heap.size w w6 := hb0'.out.trans (hT6.below hb0'.out.size (fun i hi => by
      rcases hi with e | e | e | e
      · omega
      · have : W3.heap.size = i := by simpa [Value.ownBlock] using e
        omega
      · omega
      · have := hS'.out _ e.1; omega))
    have y0 := hM7.cell 0
    have y1 := hM7.cell 1
    have y2 := hM7.cell 2
    have y3 := hM7.cell 3
    have y4 := hM7.cell 4
    have y5 := hM7.cell 5
    have y6 := hM7.cell 6
    have y7 := hM7.cell 7
    have y8 := hM7.cell 8
    have cz0 := hMr6.cell 0
    have cz1 := hMr6.cell 1
    have cz2 := hMr6.cell 2
    have cz3 := hMr6.cell 3
    have cz4 := hMr6.cell 4
    have cz5 := hMr6.cell 5
    have cz6 := hMr6.cell 6
    have cz7 := hMr6.cell 7
    have cz8 := hMr6.cell 8
    have fz0 := hMr6.free 0
    have fz1 := hMr6.free 1
    have fz2 := hMr6.free 2
    have fz3 := hMr6.free 3
    have fz4 := hMr6.free 4
    have fz5 := hMr6.free 5
    have fz6 := hMr6.free 6
    have fz7 := hMr6.free 7
    have fz8 := hMr6.free 8
    simp only [List.getElem?_cons_succ, List.getElem?_cons_zero] at y0 y1 y2 y3 y4 y5 y6 y7 y8 cz0 cz1 cz2 cz3 cz4 cz5 cz6 cz7 cz8
    have hlt6 := hMr6.lt
    have R7 := Lib.hid (And.intro hMr6 (And.intro hO6 hb6))
    have hS5 := Lib.hid hs5
    clear R6 hM6 hO6 hT6 hM7 hMr6 hb6 hrs
    go_wp2_with fail
    obtain ⟨hMr6, hO6, hb6⟩ := R7.out
    have T9 := nine_turns (Turns.refl (fun k => k = w.heap.size + 1) w6) (g := w.heap.size + 1) (fun _ => rfl) 0 (.int .i64 b.k) (.int .i64 b.n) (.string ⟨b.s.toArray⟩) (.slice P6 m6 p6) (.int .i64 b.d.k) (.int .i64 b.d.n) (.string ⟨b.d.s.toArray⟩) (.slice I6 l7 q6) (.slice K6 n6 r6)
    have hMz := nine_res hMr6 (w.heap.size + 1) rfl (.int .i64 b.k) (.int .i64 b.n) (.string ⟨b.s.toArray⟩) (.slice P6 m6 p6) (.int .i64 b.d.k) (.int .i64 b.d.n) (.string ⟨b.d.s.toArray⟩) (.slice I6 l7 q6) (.slice K6 n6 r6)
    have rz0 := hMz.cell 0
    have rz1 := hMz.cell 1
    have rz2 := hMz.cell 2
    have rz3 := hMz.cell 3
    have rz4 := hMz.cell 4
    have rz5 := hMz.cell 5
    have rz6 := hMz.cell 6
    have rz7 := hMz.cell 7
    have rz8 := hMz.cell 8
    unfold nine at rz0 rz1 rz2 rz3 rz4 rz5 rz6 rz7 rz8
    simp only [List.getElem?_cons_succ, List.getElem?_cons_zero, Nat.zero_add] at rz0 rz1 rz2 rz3 rz4 rz5 rz6 rz7 rz8
    have hFin := (hO6.turns T9 (fun g _ hs he => by have := hS'.out g hs.1; omega) (fun g _ hs he => by have := hD'.out g hs.1; omega)).tmin
    have hTz := ((Turns.of_below hb6 (fun _ => False)).then T9 (fun i hi he => by omega)).below (Nat.le_refl _) (fun _ h => h.elim)
    exact bodyPost_ret (v := .tuple #[.agg #[.int .i64 b.k, .int .i64 b.n, .string ⟨b.s.toArray⟩, .slice P6 m6 p6, .int .i64 b.d.k, .int .i64 b.d.n, .string ⟨b.d.s.toArray⟩, .slice I6 l7 q6, .slice K6 n6 r6], .nilIface]) (by simp [results, Tryz.results7, go_sem, rz0, rz1, rz2, rz3, rz4, rz5, rz6, rz7, rz8]) rfl ⟨fun _ => ⟨_, _, _, rfl, hFin⟩, fun h => by rw [hok'.out] at h; simp at h, hTz⟩
end Go.Proofs.YtpiekdcbjkgipaaGreat
