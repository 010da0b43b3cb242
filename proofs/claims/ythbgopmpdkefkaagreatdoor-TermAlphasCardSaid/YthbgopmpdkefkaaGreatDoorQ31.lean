/- Package term: Text. -/
import Derived.Test.YthbgopmpdkefkaaGreatDoorQ26
import Derived.Test.YthbgopmpdkefkaaGreatDoorQ30
import Derived.Test.YthbgopmpdkefkaaGreatDoorQ17
import Derived.Test.YthbgopmpdkefkaaGreatDoorQ21
namespace Go.Proofs.YthbgopmpdkefkaaGreatDoor
open Go.ChangeShapes Go.WideShapes Go.ChangeAt Go.RowKit Go.Deep
open TM (Tl Tm)

namespace TM
theorem pl_b64 {l : List Int} (h : l.length ≤ 1000000) (n : Int) : b64 (pl l n) := by
  unfold b64
  cases hc : l.contains n
  · rw [pl_none hc]; omega
  · have := pl_some hc; omega
theorem fit_quo {bd : List Int} {t : Tm} (h : fit bd t = true) (hk : t.k = 1) : quo t.d = true := by
  unfold fit at h
  rw [if_pos hk] at h
  simp only [Bool.and_eq_true] at h
  exact h.2
theorem nm1_tw {bd : List Int} {t : Tm} {l : List Int} (h : fit bd t = true) (hn : b64 t.n) (hl : l.length ≤ 1000000) : Tw1 (nm1 l t) := by
  refine ⟨fit_short (t := t) h, by simpa [nm1] using fit_len (t := t) h, ?_, ?_, fun hk => fit_quo (t := t) h hk⟩
  · unfold nm1
    simp only
    split
    · exact pl_b64 hl _
    · exact hn
  · intro q hq
    unfold nm1 at hq
    simp only [List.mem_map] at hq
    obtain ⟨a, _, rfl⟩ := hq
    exact pl_b64 hl a
theorem nmt_tw {l : List Int} (hl : l.length ≤ 1000000) : ∀ {bd : List Int} {d : Tl}, rtl bd d = true → TBd d → Twf (nmt l d)
  | _, .nil, _, _ => trivial
  | bd, .cons k n s ps d ks r, h, hB => by
    simp only [rtl, Bool.and_eq_true] at h
    obtain ⟨_, hn, _, _, _, _, hk, hr⟩ := hB
    exact ⟨nm1_tw h.1.1 hn hl, nmt_tw hl h.1.2 hk, nmt_tw hl h.2 hr⟩
end TM
theorem Tab.agr {w w1 : World} (h : Tab w) (hs : w.heap.size ≤ w1.heap.size) (hb : ∀ g, g < w.heap.size → w1.heap[g]? = w.heap[g]?) : Tab w1 :=
  h.on (w' := { w1 with os := w.os, tape := w.tape, output := w.output }) ⟨rfl, rfl, rfl, hs, hb⟩
set_option maxRecDepth 100000 in
set_option maxHeartbeats 4000000 in
theorem ttext_any (t : Tm) (w : World) (vp vi vk : Value) (hT : TmIn w t vp vi vk) (hB : TmBd t) (hTab : Tab w) :
    Calls Tryz.prog 16 #[tmv t vp vi vk] w fun e w' => e = .returned (.tuple #[.string ⟨(if TM.okt t then TM.ttx (TM.alpha t) else []).toArray⟩, chv (TM.okt t)]) ∧ Went w w' := by
  have hC := Lib.hid (fun (w' : World) (hb : Below w.heap.size w w') => tcheck_any t w' vp vi vk (hT.below hb) hB)
  have hmm := @run_makeMap Tryz.prog
  have hL := Lies.made w 28 #[.int .i64 t.k, .int .i64 t.n, .string ⟨t.s.toArray⟩, vp, .int .i64 t.d.k, .int .i64 t.d.n, .string ⟨t.d.s.toArray⟩, vi, vk]
  have hba : Below w.heap.size w (w.alloc (.cells #[.int .i64 t.k, .int .i64 t.n, .string ⟨t.s.toArray⟩, vp, .int .i64 t.d.k, .int .i64 t.d.n, .string ⟨t.d.s.toArray⟩, vi, vk] 28)) := (Below.refl _ w).alloc (Nat.le_refl _) _
  cases hok : TM.okt t
  · rw [hok] at hC
    unfold chv tmv at hC
    unfold chv tmv
    rw [if_neg (by simp)]
    clear hok hT hB
    go_enter Tryz.func16, Tryz.ntmps16
    go_wp2_with (go_at_call 9; refine (hC.out _ hba).mono ?_; rintro e w5 ⟨rfl, hb5⟩)
    go_ret2
    exact ⟨rfl, hba.trans (hb5.mono hba.size)⟩
  · rw [hok] at hC
    obtain ⟨h1, h2, h3, h4, h5, h6, h7⟩ := TM.okt_parts hok
    have h4' := h4
    rw [TM.ok1, Bool.and_eq_true] at h4'
    have hW1 : Tw1 (TM.alpha t) := TM.nm1_tw h4'.1 hB.n (Nat.le_trans h7 (by omega))
    have hW2 : Twf (TM.alpha t).ks := TM.nmt_tw (Nat.le_trans h7 (by omega)) h4'.2 hB.ks
    have hsz : TM.sz (TM.alpha t).ks + 1 ≤ 4000 := by rw [show (TM.alpha t).ks = TM.nmt (t.ps ++ TM.prs t.ks) t.ks from rfl, TM.nmt_sz]; exact h1
    have hN := Lib.hid (fun (w' : World) (q : Nat) (hb : Below w.heap.size w w') (hq : w.heap.size ≤ q) (hI : Im w' q 0 (TM.pl [])) => term_any t w w' q [] [] (t.ps ++ TM.prs t.ks) vp vi vk hT hB hb hq hI (fun _ h => h) h4 h3 ⟨[], by simp⟩ (by simpa using Nat.le_trans h7 (by omega)) (by omega))
    have hbd : ([] : List UInt8).length + 7000000 * (TM.sz (TM.alpha t).ks + 1) ≤ 10000000000000 := by simp only [List.length_nil]; omega
    have hQ := Lib.hid (fun (W0 : World) (up ui uk : Value) (B p : Nat) (v : Value) (hD : TmD W0 (fun g => g ≠ p) (TM.alpha t) up ui uk) (hb : Base W0 W0 B p v []) => write1_any (TM.alpha t) W0 W0 up ui uk B p v [] hD hW1 hW2 hb hbd)
    have hTab' := Lib.hid hTab
    have hpl : TM.pl [] = fun _ => 0 := by funext x; simp [TM.pl]
    have hpl' := Lib.hid hpl
    have hal : TM.nm1 (t.ps ++ TM.prs t.ks) t = TM.alpha t := rfl
    unfold NumN at hN
    rw [hal] at hN
    rw [if_pos rfl]
    unfold WtN at hQ
    rw [List.nil_append] at hQ
    generalize TM.ttx (TM.alpha t) = tx at hQ ⊢
    unfold chv tmv at hC
    unfold tmv at hN hQ
    unfold chv tmv
    clear hok hT hB h1 h2 h3 h4 h5 h6 h7 hpl hal h4' hW1 hW2 hsz hbd hTab
    go_enter Tryz.func16, Tryz.ntmps16
    go_wp2_with (first
      | (go_at_call 9
         refine (hC.out _ hba).mono ?_
         rintro e w2 ⟨rfl, hb2⟩
         have hb3 : Below w.heap.size w w2 := hba.trans (Below.mono hb2 hba.size)
         have hM2 := hL.below hb2 hL.lt
         have hMa := hM2.alloc (.cells #[.slice none 0 0] 63)
         have hM3 := hMa.alloc (.map #[] 0)
         have hWr := Lies.made w2 63 #[.slice none 0 0]
         have hWm := hWr.alloc (.map #[] 0)
         have y0 := hM3.cell 0
         have y1 := hM3.cell 1
         have y2 := hM3.cell 2
         have y3 := hM3.cell 3
         have y4 := hM3.cell 4
         have y5 := hM3.cell 5
         have y6 := hM3.cell 6
         have y7 := hM3.cell 7
         have y8 := hM3.cell 8
         simp only [List.getElem?_cons_succ, List.getElem?_cons_zero] at y0 y1 y2 y3 y4 y5 y6 y7 y8
         have hsz1 : (w2.alloc (.cells #[.slice none 0 0] 63)).heap.size = w2.heap.size + 1 := by simp
         have hI3 : Im ((w2.alloc (.cells #[.slice none 0 0] 63)).alloc (.map #[] 0)) (w2.heap.size + 1) 0 (TM.pl []) := by rw [hpl'.out, ← hsz1]; exact Im.made _
         have hI3' := Lib.hid hI3
         have hsz := Lib.hid hb3.size
         have hsz1' := Lib.hid hsz1
         have hb4 := Lib.hid ((hb3.alloc hsz.out (.cells #[.slice none 0 0] 63)).alloc (by rw [hsz1]; have := hsz.out; omega) (.map #[] 0))
         have hlt2 := hM2.lt
         clear hb2 hI3 hsz1)
      | (go_at_call 36
         refine (hN.out _ (w2.heap.size + 1) hb4.out (by have := hsz.out; omega) hI3'.out).mono ?_
         rintro e w5 ⟨vp6, vk6, rfl, hTo, -, hT5⟩
         have hWr5 := hWm.turns hT5 (by omega)
         have hT5' := Lib.hid hT5
         have hTo' := Lib.hid hTo
         clear hT5 hTo)
      | (go_at_call 37
         refine (hQ.out w5 _ _ _ w5.heap.size w2.heap.size (.slice none 0 0) ?_ ?_).mono ?_
         · exact hTo'.out.tmd (fun g _ hg e => by have := hsz.out; have hg' : g < w.heap.size := hg; omega) (fun g hg e => by have hg' : ((w2.alloc (.cells #[.slice none 0 0] 63)).alloc (.map #[] 0)).heap.size ≤ g := hg; simp at hg'; omega)
         · refine ⟨fun w1 k => hTab'.out.agr (Nat.le_trans (Nat.le_trans hb4.out.size hT5'.out.size) k.size) (fun g hg => ?_), Nat.le_refl _, Agr.refl _ _, Nat.le_refl _, Nat.le_refl _, hWr5, OwnB.none_ _ _⟩
           have h1 := hsz.out
           rw [k.block g (Nat.lt_of_lt_of_le hg (Nat.le_trans hb4.out.size hT5'.out.size)) (by omega), Turns.block hT5'.out g (Nat.lt_of_lt_of_le hg hb4.out.size) (by omega), hb4.out.block g hg]
         rintro e w8 ⟨rfl, ⟨v8, hW8⟩, hc8⟩
         have hcv := hW8.2.2.conv
         have q0 : w8.cell? ⟨w2.heap.size, 0, none⟩ = some v8 := hW8.2.1.cell 0
         have hb8 : Below w.heap.size w w8 := (hb4.out.trans ((Turns.below hT5'.out (B := w.heap.size) hb4.out.size (fun i hi => by have := hsz.out; have hi' : i = w2.heap.size + 1 := hi; omega)))).trans (Turns.below hc8 (B := w.heap.size) (Nat.le_trans hb4.out.size hT5'.out.size) (fun i hi => by have h1 := hsz.out; have h2 := hb4.out.size; have h3 := hT5'.out.size; rcases hi with hi | hi <;> omega))))
    go_ret2
    exact ⟨rfl, hb8⟩
end Go.Proofs.YthbgopmpdkefkaaGreatDoor

/- The reference of layer 10: how deep a term is, its parts, its Params; has. -/
namespace Go.Proofs.YthbgopmpdkefkaaGreatDoor
open Go.ChangeShapes Go.WideShapes Go.ChangeAt Go.RowKit Go.Deep
open TM (Tl Tm)

def TkN (H : Nat) (far : Int) (w : World) (e : Ending) (w' : World) : Prop := ∃ y : Int, y = min ((H : Int) + 1) (far + 1) ∧ e = .returned (.int .i64 y) ∧ Went w w'
def TkOk (t : Tm) : Prop := ∀ (w : World) (vp vi vk : Value) (far : Int), TmIn w t vp vi vk → 0 ≤ far → far ≤ 100000 → Calls Tryz.prog 25 #[tmv t vp vi vk, .int .i64 far] w (TkN (TM.hi t.ks) far w)
set_option maxRecDepth 100000 in
set_option maxHeartbeats 4000000 in
theorem tk_step (k n : Int) (s : List UInt8) (ps : List Int) (d : RM.Dm) (ks : Tl) (hR : ∀ i x, ks.at_ i = some x → TkOk x) : TkOk ⟨k, n, s, ps, d, ks⟩ := by
  intro w vp vi vk far h hf0 hf1
  obtain ⟨P3, p3, rfl⟩ := h.p.read
  obtain ⟨I7, q7, rfl⟩ := h.d.read
  obtain ⟨A1, c1, rfl⟩ := h.k.read
  have hlen := h.k.len
  have hTk := h.k
  simp only at hlen hTk ⊢
  obtain ⟨N, hN⟩ : ∃ N, ks.len = N := ⟨_, rfl⟩
  obtain ⟨L3, hL3⟩ : ∃ x, ps.length = x := ⟨_, rfl⟩
  obtain ⟨L7, hL7⟩ : ∃ x, d.is.len = x := ⟨_, rfl⟩
  unfold tmv
  simp only
  rw [hN] at hlen hTk ⊢
  rw [hL3, hL7]
  have hN' := Lib.hid hN
  have hL3' := Lib.hid hL3
  have hL7' := Lib.hid hL7
  have hR' := Lib.hid hR
  have hL := Lies.made w 28 #[.int .i64 k, .int .i64 n, .string ⟨s.toArray⟩, .slice P3 L3 p3, .int .i64 d.k, .int .i64 d.n, .string ⟨d.s.toArray⟩, .slice I7 L7 q7, .slice A1 N c1]
  have hba : Below w.heap.size w (w.alloc (.cells #[.int .i64 k, .int .i64 n, .string ⟨s.toArray⟩, .slice P3 L3 p3, .int .i64 d.k, .int .i64 d.n, .string ⟨d.s.toArray⟩, .slice I7 L7 q7, .slice A1 N c1] 28)) := (Below.refl _ w).alloc (Nat.le_refl _) _
  obtain ⟨H, hH⟩ : ∃ H, TM.hi ks = H := ⟨_, rfl⟩
  rw [hH]
  have hpos : N = 0 → H = 0 := fun h => by
    rw [h] at hN
    have := Tl.dr_end ks 0 (by omega)
    rw [Tl.dr_zero] at this
    rw [← hH, this]; rfl
  have hH' := Lib.hid hH
  clear hN hR hH hL3 hL7 h
  by_cases hf : 0 < far
  · go_enter Tryz.func25, Tryz.ntmps25
    go_wp2_with fail
    go_loopw [5, 6] (fun y i wr => ∃ (j R : Nat) (m : Int), j ≤ N ∧ i = .int .i64 j ∧ Hid (TM.hi (ks.dr j) = R) ∧ max m (min (R : Int) far) = min (H : Int) far ∧ 0 ≤ m ∧ m ≤ far ∧ y = .int .i64 m ∧ Below w.heap.size w wr ∧ Lies wr w.heap.size 28 [.int .i64 k, .int .i64 n, .string ⟨s.toArray⟩, .slice P3 L3 p3, .int .i64 d.k, .int .i64 d.n, .string ⟨d.s.toArray⟩, .slice I7 L7 q7, .slice A1 N c1]) (fun _ i _ => N - (intOf i).toNat)
    case atStart => exact ⟨0, H, 0, by omega, rfl, Lib.hid (by rw [Tl.dr_zero]; exact hH'.out), by omega, by omega, by omega, rfl, hba, hL⟩
    case round =>
      obtain ⟨j, R, m, hj, rfl, hR, hm, hm0, hm1, rfl, hb, hM1⟩ := hrel
      clear hL hba
      have y8 : wr.cell? ⟨w.heap.size, 8, none⟩ = some (.slice A1 N c1) := hM1.cell 8
      by_cases hlt : j < N
      · obtain ⟨x, hx⟩ := ks.at_some j (by rw [hN'.out]; exact hlt)
        obtain ⟨b, o, P5, p5, I5, q5, K5, r5, rfl, hb0, p0, p1, p2, pp, p4, p55, p6, pi, pk, hT5⟩ := (hTk.below hb).at_ hx
        have hx' := Lib.hid (hR'.out j x hx)
        have hR0 := hR.out
        rw [TM.hi_at hx] at hR0
        obtain ⟨R1, hR1⟩ : ∃ R1, TM.hi (ks.dr (j + 1)) = R1 := ⟨_, rfl⟩
        obtain ⟨X, hX⟩ : ∃ X, TM.hi x.ks = X := ⟨_, rfl⟩
        rw [hR1, hX] at hR0
        have hR1' := Lib.hid hR1
        have hX' := Lib.hid hX
        have hC := Lib.hid (hx'.out wr _ _ _ (far - 1) hT5 (by omega) (by omega))
        unfold tmv at hC
        rw [hX'.out] at hC
        clear hx hR1 hX hT5 hx'
        go_wp2_with (
          go_at_call 25
          refine hC.out.mono ?_
          rintro e w5 ⟨y5, h50, rfl, hb5⟩
          have h50' := Lib.hid h50
          clear h50
          have hM3 := hM1.below hb5 hM1.lt
          have hb6 : Below w.heap.size w w5 := hb.trans (hb5.mono hb.size)
          clear p0 p1 p2 pp p4 p55 p6 pi pk y8 hb5)
        all_goals
          have h50 := h50'.out
          go_roundw
          case rel => exact ⟨j + 1, R1, _, by omega, by go_num, hR1', by omega, by omega, by omega, rfl, hb6, hM3⟩
          case measure => simp [intOf]; omega
      · obtain rfl : j = N := by omega
        have hR0 := hR.out
        rw [Tl.dr_end ks j (by rw [hN'.out]; exact Nat.le_refl _)] at hR0
        have hR1 : R = 0 := hR0.symm
        go_wp2_with fail
        go_ret
        exact ⟨m + 1, by omega, rfl, hb⟩
  · go_enter Tryz.func25, Tryz.ntmps25
    go_wp2_with fail
    go_ret
    exact ⟨1, by omega, rfl, hba⟩
theorem tdepth_any (t : Tm) : TkOk t := Tl.all_one TkOk tk_step t

def CtN (n : Int) (w : World) (e : Ending) (w' : World) : Prop := ∃ y : Int, y = min n 5000 ∧ e = .returned (.int .i64 y) ∧ Went w w'
def CtOk (t : Tm) : Prop := ∀ (w : World) (vp vi vk : Value) (m : Int), TmIn w t vp vi vk → 0 ≤ m → m < 5000 → Calls Tryz.prog 31 #[tmv t vp vi vk, .int .i64 m] w (CtN (m + TM.sz t.ks + 1) w)
set_option maxRecDepth 100000 in
set_option maxHeartbeats 4000000 in
theorem ct_step (k n : Int) (s : List UInt8) (ps : List Int) (d : RM.Dm) (ks : Tl) (hR : ∀ i x, ks.at_ i = some x → CtOk x) : CtOk ⟨k, n, s, ps, d, ks⟩ := by
  intro w vp vi vk n0 h hn0 hn1
  obtain ⟨P3, p3, rfl⟩ := h.p.read
  obtain ⟨I7, q7, rfl⟩ := h.d.read
  obtain ⟨A1, c1, rfl⟩ := h.k.read
  have hlen := h.k.len
  have hTk := h.k
  simp only at hlen hTk ⊢
  obtain ⟨N, hN⟩ : ∃ N, ks.len = N := ⟨_, rfl⟩
  obtain ⟨L3, hL3⟩ : ∃ x, ps.length = x := ⟨_, rfl⟩
  obtain ⟨L7, hL7⟩ : ∃ x, d.is.len = x := ⟨_, rfl⟩
  unfold tmv
  simp only
  rw [hN] at hlen hTk ⊢
  rw [hL3, hL7]
  have hN' := Lib.hid hN
  have hL3' := Lib.hid hL3
  have hL7' := Lib.hid hL7
  have hR' := Lib.hid hR
  have hL := Lies.made w 28 #[.int .i64 k, .int .i64 n, .string ⟨s.toArray⟩, .slice P3 L3 p3, .int .i64 d.k, .int .i64 d.n, .string ⟨d.s.toArray⟩, .slice I7 L7 q7, .slice A1 N c1]
  have hba : Below w.heap.size w (w.alloc (.cells #[.int .i64 k, .int .i64 n, .string ⟨s.toArray⟩, .slice P3 L3 p3, .int .i64 d.k, .int .i64 d.n, .string ⟨d.s.toArray⟩, .slice I7 L7 q7, .slice A1 N c1] 28)) := (Below.refl _ w).alloc (Nat.le_refl _) _
  obtain ⟨Z, hZ⟩ : ∃ Z, TM.sz ks = Z := ⟨_, rfl⟩
  rw [hZ]
  have hZ' := Lib.hid hZ
  clear hN hR hZ hL3 hL7 h
  go_enter Tryz.func31, Tryz.ntmps31
  go_wp2_with fail
  go_loopw [1, 5] (fun y i wr => ∃ (j R : Nat) (m : Int), j ≤ N ∧ i = .int .i64 j ∧ Hid (TM.sz (ks.dr j) = R) ∧ min (m + (R : Int)) 5000 = min (n0 + (Z : Int) + 1) 5000 ∧ 0 ≤ m ∧ m ≤ 5000 ∧ y = .int .i64 m ∧ Below w.heap.size w wr ∧ Lies wr w.heap.size 28 [.int .i64 k, .int .i64 n, .string ⟨s.toArray⟩, .slice P3 L3 p3, .int .i64 d.k, .int .i64 d.n, .string ⟨d.s.toArray⟩, .slice I7 L7 q7, .slice A1 N c1]) (fun _ i _ => N - (intOf i).toNat)
  case atStart => exact ⟨0, Z, n0 + 1, by omega, rfl, Lib.hid (by rw [Tl.dr_zero]; exact hZ'.out), by omega, by omega, by omega, rfl, hba, hL⟩
  case round =>
    obtain ⟨j, R, m, hj, rfl, hR, hm, hm0, hm1, rfl, hb, hM1⟩ := hrel
    clear hL hba
    have y8 : wr.cell? ⟨w.heap.size, 8, none⟩ = some (.slice A1 N c1) := hM1.cell 8
    by_cases hlt2 : j < N ∧ m < 5000
    · obtain ⟨hlt, hmm⟩ := hlt2
      obtain ⟨x, hx⟩ := ks.at_some j (by rw [hN'.out]; exact hlt)
      obtain ⟨b, o, P5, p5, I5, q5, K5, r5, rfl, hb0, p0, p1, p2, pp, p4, p55, p6, pi, pk, hT5⟩ := (hTk.below hb).at_ hx
      have hx' := Lib.hid (hR'.out j x hx)
      have hR0 := hR.out
      rw [TM.sz_at hx] at hR0
      obtain ⟨R1, hR1⟩ : ∃ R1, TM.sz (ks.dr (j + 1)) = R1 := ⟨_, rfl⟩
      obtain ⟨X, hX⟩ : ∃ X, TM.sz x.ks = X := ⟨_, rfl⟩
      rw [hR1, hX] at hR0
      have hR1' := Lib.hid hR1
      have hX' := Lib.hid hX
      have hC := Lib.hid (hx'.out wr _ _ _ m hT5 hm0 hmm)
      unfold tmv at hC
      rw [hX'.out] at hC
      clear hx hR1 hX hT5 hx'
      go_wp2_with (
        go_at_call 31
        refine hC.out.mono ?_
        rintro e w5 ⟨y5, h50, rfl, hb5⟩
        have h50' := Lib.hid h50
        clear h50
        have hM3 := hM1.below hb5 hM1.lt
        have hb6 : Below w.heap.size w w5 := hb.trans (hb5.mono hb.size)
        clear p0 p1 p2 pp p4 p55 p6 pi pk y8 hb5)
      have h50 := h50'.out
      go_roundw
      case rel => exact ⟨j + 1, R1, y5, by omega, by go_num, hR1', by omega, by omega, by omega, rfl, hb6, hM3⟩
      case measure => simp [intOf]; omega
    · by_cases hj2 : j < N
      · have hmm : m = 5000 := by omega
        clear hlt2
        go_wp2_with fail
        all_goals
          go_ret
          exact ⟨5000, by omega, by first | rfl | (congr 2; omega), hb⟩
      · clear hlt2
        obtain rfl : j = N := by omega
        have hR0 := hR.out
        rw [Tl.dr_end ks j (by rw [hN'.out]; exact Nat.le_refl _)] at hR0
        have hR1 : R = 0 := hR0.symm
        go_wp2_with fail
        all_goals
          go_ret
          exact ⟨_, by omega, rfl, hb⟩
theorem tcount_any (t : Tm) : CtOk t := Tl.all_one CtOk ct_step t
set_option maxRecDepth 100000 in
theorem trparts_any (t : Tm) (w : World) (vp vi vk : Value) (h : TmIn w t vp vi vk) : Calls Tryz.prog 12 #[tmv t vp vi vk] w (CtN (TM.sz t.ks + 1) w) := by
  obtain ⟨Z, hZ⟩ : ∃ Z, TM.sz t.ks = Z := ⟨_, rfl⟩
  have hC := Lib.hid (fun w' (hb : Below w.heap.size w w') => tcount_any t w' vp vi vk 0 (h.below hb) (by omega) (by omega))
  rw [hZ] at hC ⊢
  unfold tmv at hC ⊢
  have hb0 : Below w.heap.size w (w.alloc (.cells #[.int .i64 t.k, .int .i64 t.n, .string ⟨t.s.toArray⟩, vp, .int .i64 t.d.k, .int .i64 t.d.n, .string ⟨t.d.s.toArray⟩, vi, vk] 28)) := (Below.refl _ w).alloc (Nat.le_refl _) _
  clear h hZ
  go_enter Tryz.func12, Tryz.ntmps12
  go_wp2_with (
    go_at_call 31
    refine (hC.out _ hb0).mono ?_
    rintro e w5 ⟨y5, h50, rfl, hb5⟩
    have h50' := Lib.hid h50
    clear h50)
  have h50 := h50'.out
  go_ret
  exact ⟨y5, by omega, rfl, hb0.trans (hb5.mono (by simp))⟩
set_option maxRecDepth 100000 in
theorem has_any (w : World) (v : Value) (l : List Int) (n : Int) (h : PIn w v l) : Calls Tryz.prog 50 #[v, .int .i64 n] w fun e w' => e = .returned (.bool (l.contains n)) ∧ w = w' := by
  obtain ⟨A, c, rfl⟩ := h.read
  have hlen := h.len
  obtain ⟨L, hL⟩ : ∃ L, l.length = L := ⟨_, rfl⟩
  rw [hL] at h hlen ⊢
  obtain ⟨R, hR⟩ : ∃ R, l.contains n = R := ⟨_, rfl⟩
  rw [hR]
  have hR' := Lib.hid hR
  have hL' := Lib.hid hL
  clear hL hR
  go_enter Tryz.func50, Tryz.ntmps50
  go_wp2_with fail
  go_loop [5] (fun i => ∃ (j : Nat), j ≤ L ∧ i = .int .i64 j ∧ Hid ((l.drop j).contains n = R)) (fun i => L - (intOf i).toNat)
  case atStart => exact ⟨0, Nat.zero_le _, rfl, Lib.hid (by simpa using hR'.out)⟩
  case round =>
    obtain ⟨j, hj, rfl, hc⟩ := hrel
    by_cases hlt : j < L
    · have hx : l[j]? = some (l[j]'(by rw [hL'.out]; exact hlt)) := List.getElem?_eq_getElem _
      obtain ⟨x, hxe⟩ : ∃ x, l[j]'(by rw [hL'.out]; exact hlt) = x := ⟨_, rfl⟩
      rw [hxe] at hx
      obtain ⟨b, o, rfl, hb0, p0⟩ := h.cell hx
      have hd : l.drop j = x :: l.drop (j + 1) := by rw [← hxe, ← List.drop_eq_getElem_cons]
      have hc2 := hc.out
      rw [hd, List.contains_cons] at hc2
      by_cases hxn : x = n
      · subst hxn
        obtain rfl : R = true := by rw [← hc2]; simp
        clear hx hxe hd hc2 hc
        go_wp2_with fail
        go_ret
        exact ⟨rfl, rfl⟩
      · have hc3 : (l.drop (j + 1)).contains n = R := by
          rw [← hc2, show (n == x) = false by rw [beq_eq_false_iff_ne]; exact fun e => hxn e.symm]; simp
        have hc3' := Lib.hid hc3
        clear hx hxe hd hc2 hc hc3
        go_wp2_with fail
        go_round
        case rel => exact ⟨j + 1, by omega, by go_num, hc3'⟩
        case measure => simp [intOf]; omega
    · obtain rfl : j = L := by omega
      have hc2 := hc.out
      rw [← hL'.out, List.drop_length] at hc2
      obtain rfl : R = false := by rw [← hc2]; rfl
      go_wp2_with fail
      go_ret
      exact ⟨rfl, rfl⟩
end Go.Proofs.YthbgopmpdkefkaaGreatDoor

/- The reference of layer 10: the text of a term's locals and parameters; mathematics of what it writes. -/
namespace Go.Proofs.YthbgopmpdkefkaaGreatDoor
open Go.ChangeShapes Go.WideShapes Go.ChangeAt Go.RowKit Go.Deep
open TM (Tl Tm)

namespace TM
theorem txs_true : ∀ d : Tl, 0 < d.len → 32 :: txs true d = txs false d
  | .nil, h => by simp [Tl.len] at h
  | .cons k n s ps d ks r, _ => rfl
/-- a term's own fields can be written, and it has kids where its kind has any -/
structure Rw1 (t : Tm) : Prop where
  w : Tw1 t
  lo : 1 ≤ t.k ∧ t.k ≤ 10
  ks : 4 ≤ t.k → 0 < t.ks.len
def Rwf : Tl → Prop
  | .nil => True
  | .cons k n s ps d ks r => Rw1 ⟨k, n, s, ps, d, ks⟩ ∧ Rwf ks ∧ Rwf r
theorem Rwf.at_ : ∀ {d : Tl} {i : Nat} {x : Tm}, Rwf d → d.at_ i = some x → Rw1 x ∧ Rwf x.ks
  | .nil, i, x, _, h => by simp [Tl.at_] at h
  | .cons k n s ps d ks r, 0, x, ⟨h1, h2, h3⟩, h => by
    simp only [Tl.at_, Option.some.injEq] at h
    subst h
    exact ⟨h1, h2⟩
  | .cons k n s ps d ks r, i + 1, x, ⟨h1, h2, h3⟩, h => Rwf.at_ h3 (show r.at_ i = some x from h)
theorem Rwf.tw : ∀ {d : Tl}, Rwf d → Twf d
  | .nil, _ => trivial
  | .cons _ _ _ _ _ _ _, ⟨h1, h2, h3⟩ => ⟨h1.w, Rwf.tw h2, Rwf.tw h3⟩
theorem Rwf.dr : ∀ {d : Tl} (i : Nat), Rwf d → Rwf (d.dr i)
  | d, 0, h => by rw [Tl.dr_zero]; exact h
  | .nil, i + 1, _ => trivial
  | .cons _ _ _ _ _ _ r, i + 1, ⟨_, _, h⟩ => Rwf.dr (d := r) i h
theorem fit_k {bd : List Int} {t : Tm} (h : fit bd t = true) : (1 ≤ t.k ∧ t.k ≤ 10) ∧ (4 ≤ t.k → 0 < t.ks.len) := by
  unfold fit at h
  split at h
  · rename_i e; omega
  split at h
  · rename_i e; omega
  split at h
  · rename_i e; omega
  split at h
  · rename_i e; simp at h; omega
  split at h
  · rename_i e; simp at h; omega
  split at h
  · rename_i e; simp at h; omega
  split at h
  · rename_i e; simp at h; omega
  split at h
  · rename_i e; simp at h; omega
  split at h
  · rename_i e; simp at h; omega
  · cases h
theorem nm1_rw {bd : List Int} {t : Tm} {l : List Int} (h : fit bd t = true) (hn : b64 t.n) (hl : l.length ≤ 1000000) : Rw1 (nm1 l t) := by
  obtain ⟨h1, h2⟩ := fit_k h
  exact ⟨nm1_tw h hn hl, h1, fun hk => by show 0 < (nmt l t.ks).len; rw [nmt_len]; exact h2 hk⟩
theorem nmt_rw {l : List Int} (hl : l.length ≤ 1000000) : ∀ {bd : List Int} {d : Tl}, rtl bd d = true → TBd d → Rwf (nmt l d)
  | _, .nil, _, _ => trivial
  | bd, .cons k n s ps d ks r, h, hB => by
    simp only [rtl, Bool.and_eq_true] at h
    obtain ⟨_, hn, _, _, _, _, hk, hr⟩ := hB
    exact ⟨nm1_rw h.1.1 hn hl, nmt_rw hl h.1.2 hk, nmt_rw hl h.2 hr⟩
end TM
/-- a string of these bytes -/
def StrN (l : List UInt8) (w : World) (e : Ending) (w' : World) : Prop := (∃ T : ByteArray, e = .returned (.string T) ∧ T.data.toList = l) ∧ Went w w'
theorem bytes_has (l : List UInt8) : ∃ T : ByteArray, (⟨l.toArray⟩ : ByteArray) = T ∧ T.data.toList = l ∧ T.size = l.length := ⟨_, rfl, rfl, by rw [← size_len]⟩
set_option maxRecDepth 100000 in
theorem rlocal_any (n : Int) (h : b64 n) (w : World) : Calls Tryz.prog 67 #[.int .i64 n] w (StrN (TM.loc n) w) := by
  obtain ⟨T, hT, hTl, hTs⟩ := bytes_has (Lib.itoa n)
  have hR := rtext_any n h.1 h.2
  rw [hT] at hR
  have hR' := Lib.hid hR
  have hlen := Lib.itoa_length_le n (by unfold b64 at h; omega) (by unfold b64 at h; omega)
  have hsz : T.size ≤ 30 := by omega
  have hTl' := Lib.hid hTl
  clear hR hT hTl hTs hlen h
  go_enter Tryz.func67, Tryz.ntmps67
  go_wp2_with (
    go_at_call 95
    refine (hR'.out _).mono ?_
    rintro e w5 ⟨rfl, hb5⟩)
  go_ret
  exact ⟨⟨_, rfl, by simp [TM.loc, hTl'.out]⟩, hb5⟩
end Go.Proofs.YthbgopmpdkefkaaGreatDoor
