/- The reference of layer 15: resolved. -/
import Derived.Test.YtpiekdcbjkgipaaGreatR1
import Derived.Deep.Cut
import Derived.Deep.CutRange
import Derived.Deep.CutBlock
import Derived.Test.YtpiekdcbjkgipaaGreatQ48
import Derived.Test.YtpiekdcbjkgipaaGreatQ8
namespace Go.Proofs.YtpiekdcbjkgipaaGreat
open Go.ChangeShapes Go.WideShapes Go.ChangeAt Go.RowKit Go.Deep
open TM (Tl Tm)

theorem up1_snoc (j : Nat) : SC.up1 (j + 1) = SC.up1 j ++ [(j : Int) + 1] := by simp [SC.up1, List.range_succ]
def RdOk (t : Tm) : Prop := ∀ (w : World) (v : Value) (Rs : List (List Int)) (vp vi vk : Value), TmIn w t vp vi vk → RIn w v Rs → TM.sd1 t = true → TM.sz t.ks ≤ 5000 → Rs.length + TM.hi t.ks + 1 ≤ 1000 →
  Calls Tryz.prog 31 #[tmv t vp vi vk, v] w fun e w' => ∃ vp' vi' vk', e = .returned (tmv (SC.rs1 Rs.reverse t) vp' vi' vk') ∧ NewT w.heap.size w' (SC.rs1 Rs.reverse t) vp' vi' vk' ∧ Went w w'
set_option maxRecDepth 100000 in
set_option maxHeartbeats 16000000 in
theorem rd_step (k n : Int) (s : List UInt8) (ps : List Int) (d : RM.Dm) (ks : Tl) (hR : ∀ i x, ks.at_ i = some x → RdOk x) : RdOk ⟨k, n, s, ps, d, ks⟩ := by
  intro w v Rs vp vi vk h hv hsd hsz hhi
  have hO := Lib.hid (fun (w' : World) (hb : Below w.heap.size w w') => town_any ⟨k, n, s, ps, d, ks⟩ w' vp vi vk (h.below hb) hsd hsz)
  obtain ⟨P3, p3, rfl⟩ := h.p.read
  obtain ⟨I7, q7, rfl⟩ := h.d.read
  obtain ⟨A1, c1, rfl⟩ := h.k.read
  have hTk := h.k
  have hTp := h.p
  have hlen := hTk.len
  unfold TM.sd1 at hsd
  simp only [Bool.and_eq_true, decide_eq_true_eq] at hsd
  simp only at hlen hTk hTp hsd hsz hhi ⊢
  have hpl := hsd.1.2
  obtain ⟨N, hN⟩ : ∃ N, ks.len = N := ⟨_, rfl⟩
  obtain ⟨L3, hL3⟩ : ∃ x, ps.length = x := ⟨_, rfl⟩
  obtain ⟨L7, hL7⟩ : ∃ x, d.is.len = x := ⟨_, rfl⟩
  have hN5 : N ≤ 5000 := by have := TM.len_sz ks; omega
  obtain ⟨Av, Lv, cv, rfl⟩ : ∃ A m c, v = .slice A m c := by obtain ⟨A, c, e, _⟩ := hv; exact ⟨_, _, _, e⟩
  obtain ⟨hLv, hl1, us, hRx, hcell⟩ := hv.raw
  have hPl := Lib.hid (fun (w' : World) (hb : Below w.heap.size w w') (m : Int) => rplace_any w' _ Rs m (hv.below hb))
  have hzA : Av = none → us = [] := fun e => by
    obtain ⟨A', c', e', _, b, o, h1, _⟩ := hv
    injection e' with e1 e2 e3
    refine List.eq_nil_of_length_eq_zero ?_
    rw [hRx.1]
    rcases Nat.eq_zero_or_pos Rs.length with h | h
    · exact h
    · have := (h1 h).1; rw [← e1, e] at this; cases this
  have hblkA : ∀ a', Av = some a' → us ≠ [] → a'.block < w.heap.size := fun a' e hne => by
    obtain ⟨A', c', e', _, b, o, h1, _⟩ := hv
    injection e' with e1 e2 e3
    have hp : 0 < Rs.length := by rw [← hRx.1]; exact List.length_pos_iff.2 hne
    have h2 := h1 hp
    rw [← e1, e] at h2
    obtain ⟨h3, h4⟩ := h2
    injection h3 with h3
    rw [h3]; exact h4
  obtain ⟨nn, hnn⟩ : ∃ nn, (if k = 2 ∨ k = 4 then SC.plu 0 Rs.reverse n else n) = nn := ⟨_, rfl⟩
  obtain ⟨Q2, hQ2⟩ : ∃ Q2, (if k = 8 then Rs ++ [ps] else Rs) = Q2 := ⟨_, rfl⟩
  obtain ⟨qs, hqs⟩ : ∃ qs, (if k = 8 then SC.up1 ps.length else ps) = qs := ⟨_, rfl⟩
  have hQr : (if k = 8 then ps :: Rs.reverse else Rs.reverse) = Q2.reverse := by
    rw [← hQ2]
    split
    · simp
    · rfl
  unfold SC.rs1
  simp only
  rw [hnn, hqs, hQr]
  have hQl : Q2.length ≤ Rs.length + 1 := by rw [← hQ2]; split <;> simp
  obtain ⟨R2, hR2⟩ : ∃ R2, Q2.reverse = R2 := ⟨_, rfl⟩
  rw [hR2]
  unfold tmv at hO ⊢
  simp only at hO ⊢
  rw [hN] at hlen hTk
  rw [hL3] at hTp
  rw [hN, hL3, hL7] at hO
  rw [hN, hL3, hL7]
  have husl := Lib.hid (show Lv = us.length from by rw [hRx.1]; exact hLv)
  have hL := (Lies.made w 28 #[.int .i64 k, .int .i64 n, .string ⟨s.toArray⟩, .slice P3 L3 p3, .int .i64 d.k, .int .i64 d.n, .string ⟨d.s.toArray⟩, .slice I7 L7 q7, .slice A1 N c1]).alloc (.cells #[.int .i64 0, .int .i64 0, .string ⟨#[]⟩, .slice none 0 0, .int .i64 0, .int .i64 0, .string ⟨#[]⟩, .slice none 0 0, .slice none 0 0] 28)
  have hz1 : (w.alloc (.cells #[.int .i64 k, .int .i64 n, .string ⟨s.toArray⟩, .slice P3 L3 p3, .int .i64 d.k, .int .i64 d.n, .string ⟨d.s.toArray⟩, .slice I7 L7 q7, .slice A1 N c1] 28)).heap.size = w.heap.size + 1 := by simp
  have hLr := Lies.made (w.alloc (.cells #[.int .i64 k, .int .i64 n, .string ⟨s.toArray⟩, .slice P3 L3 p3, .int .i64 d.k, .int .i64 d.n, .string ⟨d.s.toArray⟩, .slice I7 L7 q7, .slice A1 N c1] 28)) 28 #[.int .i64 0, .int .i64 0, .string ⟨#[]⟩, .slice none 0 0, .int .i64 0, .int .i64 0, .string ⟨#[]⟩, .slice none 0 0, .slice none 0 0]
  rw [hz1] at hLr
  have hba : Below w.heap.size w ((w.alloc (.cells #[.int .i64 k, .int .i64 n, .string ⟨s.toArray⟩, .slice P3 L3 p3, .int .i64 d.k, .int .i64 d.n, .string ⟨d.s.toArray⟩, .slice I7 L7 q7, .slice A1 N c1] 28)).alloc (.cells #[.int .i64 0, .int .i64 0, .string ⟨#[]⟩, .slice none 0 0, .int .i64 0, .int .i64 0, .string ⟨#[]⟩, .slice none 0 0, .slice none 0 0] 28)) := ((Below.refl _ w).alloc (Nat.le_refl _) _).alloc (by simp) _
  have hZ2 : ((w.alloc (.cells #[.int .i64 k, .int .i64 n, .string ⟨s.toArray⟩, .slice P3 L3 p3, .int .i64 d.k, .int .i64 d.n, .string ⟨d.s.toArray⟩, .slice I7 L7 q7, .slice A1 N c1] 28)).alloc (.cells #[.int .i64 0, .int .i64 0, .string ⟨#[]⟩, .slice none 0 0, .int .i64 0, .int .i64 0, .string ⟨#[]⟩, .slice none 0 0, .slice none 0 0] 28)).heap.size = w.heap.size + 2 := by simp
  obtain ⟨W2, hW2⟩ : ∃ W2, ((w.alloc (.cells #[.int .i64 k, .int .i64 n, .string ⟨s.toArray⟩, .slice P3 L3 p3, .int .i64 d.k, .int .i64 d.n, .string ⟨d.s.toArray⟩, .slice I7 L7 q7, .slice A1 N c1] 28)).alloc (.cells #[.int .i64 0, .int .i64 0, .string ⟨#[]⟩, .slice none 0 0, .int .i64 0, .int .i64 0, .string ⟨#[]⟩, .slice none 0 0, .slice none 0 0] 28)) = W2 := ⟨_, rfl⟩
  rw [hW2] at hL hLr hba hZ2
  have hN' := Lib.hid hN
  have hL3Q := Lib.hid hL3
  have hR' := Lib.hid hR
  have hsz' := Lib.hid hsz
  have hsd' := Lib.hid hsd.2
  have hhi' := Lib.hid hhi
  have hplQ := Lib.hid hpl
  have hv' := Lib.hid hv
  have hRxQ := Lib.hid hRx
  have hcellA := Lib.hid hcell
  have hzAQ := Lib.hid hzA
  have hblkAQ := Lib.hid hblkA
  have hl1Q := Lib.hid (show Lv ≤ 1000 ∧ Rs.length + 1 ≤ 1000 ∧ Lv = Rs.length from ⟨hl1, by omega, hLv⟩)
  have hnn' := Lib.hid hnn
  have hQ2' := Lib.hid hQ2
  have hqs' := Lib.hid hqs
  have hQl' := Lib.hid hQl
  have hR2' := Lib.hid hR2
  have hba' := Lib.hid hba
  have hZ2' := Lib.hid hZ2
  have hLh := Lib.hid (And.intro hL hLr)
  have hTk' := Lib.hid hTk
  have hTpQ := Lib.hid hTp
  have hlen' := Lib.hid hlen
  have hj' := Lib.hid hN5
  have x0 := hL.cell 0
  have x1 := hL.cell 1
  have x2 := hL.cell 2
  have x3 := hL.cell 3
  have x4 := hL.cell 4
  have x5 := hL.cell 5
  have x6 := hL.cell 6
  have x7 := hL.cell 7
  have x8 := hL.cell 8
  simp only [List.getElem?_cons_succ, List.getElem?_cons_zero] at x0 x1 x2 x3 x4 x5 x6 x7 x8
  clear h hv hsd hsz hhi hN hL3 hL7 hR hpl hzA hblkA hnn hQ2 hqs hQr hQl hR2 hRx hcell hl1 hLv hlen hTk hTp hz1 hZ2 hba hL hLr hN5
  go_enter Tryz.func31, Tryz.ntmps31
  go_upto_region 1 with fail
  go_cut [5] from 8 to 9 (fun s5 wx => ∃ (bo : Nat) (P5 : Option Addr) (M5 p5 : Nat) (I5 : Option Addr) (L5 q5 : Nat) (K5 : Option Addr) (N5 r5 : Nat) (D5 : Nat → Prop), s5 = .pointer (some ⟨bo, 0, none⟩) ∧ w.heap.size + 2 ≤ bo ∧ Lies wx w.heap.size 28 [.int .i64 k, .int .i64 n, .string ⟨s.toArray⟩, .slice P3 L3 p3, .int .i64 d.k, .int .i64 d.n, .string ⟨d.s.toArray⟩, .slice I7 L7 q7, .slice A1 N c1] ∧ Lies wx (w.heap.size + 1) 28 [.int .i64 0, .int .i64 0, .string ⟨#[]⟩, .slice none 0 0, .int .i64 0, .int .i64 0, .string ⟨#[]⟩, .slice none 0 0, .slice none 0 0] ∧ Lies wx bo 28 [.int .i64 k, .int .i64 n, .string ⟨s.toArray⟩, .slice P5 M5 p5, .int .i64 d.k, .int .i64 d.n, .string ⟨d.s.toArray⟩, .slice I5 L5 q5, .slice K5 N5 r5] ∧ Hid (Own wx 0 (.slice P5 M5 p5) ps ∧ InD wx D5 (.slice I5 L5 q5) d.is ∧ (∀ g, (Value.slice P5 M5 p5).ownBlock = some g → (w.heap.size + 2 ≤ g ∧ g < bo) ∧ ¬ D5 g) ∧ ∀ g, D5 g → w.heap.size + 2 ≤ g ∧ g < bo) ∧ Hid (Below w.heap.size w wx))
  case first =>
    go_wp2_with (
       go_at_call 8
       refine (hO.out _ hba'.out).mono ?_
       rintro e w5 ⟨vp5, vi5, vk5, rfl, hNw, hb5⟩
       obtain ⟨D5, hd1, hd2, hd3, hd4⟩ := hNw.two
       obtain ⟨P5, M5, p5, rfl⟩ : ∃ A m c, vp5 = .slice A m c := by obtain ⟨A, c, e⟩ := hNw.tmin.p.read; exact ⟨_, _, _, e⟩
       obtain ⟨I5, L5, q5, rfl⟩ : ∃ A m c, vi5 = .slice A m c := by obtain ⟨A, c, e⟩ := hNw.tmin.d.read; exact ⟨_, _, _, e⟩
       obtain ⟨K5, N5, r5, rfl⟩ : ∃ A m c, vk5 = .slice A m c := by obtain ⟨A, c, e⟩ := hNw.tmin.k.read; exact ⟨_, _, _, e⟩
       have R5 := Lib.hid (show (w.heap.size + 2 ≤ w5.heap.size) ∧ Lies w5 w.heap.size 28 [.int .i64 k, .int .i64 n, .string ⟨s.toArray⟩, .slice P3 L3 p3, .int .i64 d.k, .int .i64 d.n, .string ⟨d.s.toArray⟩, .slice I7 L7 q7, .slice A1 N c1] ∧ Lies w5 (w.heap.size + 1) 28 [.int .i64 0, .int .i64 0, .string ⟨#[]⟩, .slice none 0 0, .int .i64 0, .int .i64 0, .string ⟨#[]⟩, .slice none 0 0, .slice none 0 0] ∧ Below w.heap.size w w5 ∧ (∀ g, (Value.slice P5 M5 p5).ownBlock = some g → (w.heap.size + 2 ≤ g ∧ g < w5.heap.size) ∧ ¬ D5 g) ∧ ∀ g, D5 g → w.heap.size + 2 ≤ g ∧ g < w5.heap.size from ⟨by have := hb5.size; have := hZ2'.out; omega, hLh.out.1.below hb5 hLh.out.1.lt, hLh.out.2.below hb5 hLh.out.2.lt, hba'.out.trans (Below.mono hb5 hba'.out.size), fun g hg => by have h1 := hd3 g hg; rw [hZ2'.out] at h1; exact h1, fun g hg => by have h1 := hd4 g hg; rw [hZ2'.out] at h1; exact h1⟩)
       have hd1' := Lib.hid hd1
       have hd2' := Lib.hid hd2
       clear hb5 hNw hd1 hd2 hd3 hd4)
    go_meet
    case rel => exact ⟨w5.heap.size, P5, M5, p5, I5, L5, q5, K5, N5, r5, D5, rfl, R5.out.1, R5.out.2.1.alloc _, R5.out.2.2.1.alloc _, Lies.made w5 _ #[.int .i64 k, .int .i64 n, .string ⟨s.toArray⟩, .slice P5 M5 p5, .int .i64 d.k, .int .i64 d.n, .string ⟨d.s.toArray⟩, .slice I5 L5 q5, .slice K5 N5 r5], Lib.hid ⟨hd1'.out.below ((Below.refl _ _).alloc (Nat.le_refl _) _), hd2'.out.agr (Agr.of_below ((Below.refl _ _).alloc (Nat.le_refl _) _)), R5.out.2.2.2.2⟩, Lib.hid (R5.out.2.2.2.1.alloc R5.out.2.2.2.1.size _)⟩
  case rest =>
  obtain ⟨bo, P5, M5, p5, I5, L5, q5, K5, N5, r5, D5, rfl, hbo, hT1, hT2, hBo, hOw, hb1⟩ := hcut
  obtain ⟨W5, hW5⟩ : ∃ W5, W5 = wc := ⟨_, rfl⟩
  subst hW5
  clear x0 x1 x2 x3 x4 x5 x6 x7 x8 hLh hba' hZ2' hO
  have hbo2 := Lib.hid hbo
  have y0 : W5.cell? ⟨w.heap.size, 0, none⟩ = some (.int .i64 k) := hT1.cell 0
  have y1 : W5.cell? ⟨w.heap.size, 1, none⟩ = some (.int .i64 n) := hT1.cell 1
  have z1 : W5.cell? ⟨bo, 1, none⟩ = some (.int .i64 n) := hBo.cell 1
  have f1 := hBo.free 1
  have hltB := hBo.lt
  have hT1' := Lib.hid hT1
  have hT2' := Lib.hid hT2
  have hBo' := Lib.hid hBo
  clear hT1 hT2 hBo
  obtain ⟨kk, hkk⟩ : ∃ kk, decide (k = 2 ∨ k = 4) = kk := ⟨_, rfl⟩
  have hkk' := Lib.hid hkk
  clear hkk hbo
  go_upto_region 2 with fail
  go_cut [17] from 10 to 17 (fun s17 wx => s17 = .bool kk ∧ W5 = wx)
  case first =>
    by_cases h2 : k = 2
    · obtain rfl : kk = true := by rw [← hkk'.out]; simp [h2]
      subst h2
      go_wp2_with fail
      go_meet
      case rel => exact ⟨rfl, rfl⟩
    · by_cases h4 : k = 4
      · obtain rfl : kk = true := by rw [← hkk'.out]; simp [h4]
        subst h4
        go_wp2_with fail
        go_meet
        case rel => exact ⟨rfl, rfl⟩
      · obtain rfl : kk = false := by rw [← hkk'.out]; simp [h2, h4]
        have q2 : (k == 2) = false := by simp [h2]
        have q4 : (k == 4) = false := by simp [h4]
        go_wp2_with fail
        go_meet
        case rel => exact ⟨rfl, rfl⟩
  case rest =>
  obtain ⟨rfl, rfl⟩ := hcut
  go_upto_if 17 with fail
  go_cut [18] from 18 to 22 (fun s18 wx => Lies wx w.heap.size 28 [.int .i64 k, .int .i64 n, .string ⟨s.toArray⟩, .slice P3 L3 p3, .int .i64 d.k, .int .i64 d.n, .string ⟨d.s.toArray⟩, .slice I7 L7 q7, .slice A1 N c1] ∧ Lies wx (w.heap.size + 1) 28 [.int .i64 0, .int .i64 0, .string ⟨#[]⟩, .slice none 0 0, .int .i64 0, .int .i64 0, .string ⟨#[]⟩, .slice none 0 0, .slice none 0 0] ∧ Lies wx bo 28 [.int .i64 k, .int .i64 nn, .string ⟨s.toArray⟩, .slice P5 M5 p5, .int .i64 d.k, .int .i64 d.n, .string ⟨d.s.toArray⟩, .slice I5 L5 q5, .slice K5 N5 r5] ∧ Hid (Own wx 0 (.slice P5 M5 p5) ps ∧ InD wx D5 (.slice I5 L5 q5) d.is) ∧ Hid (Below w.heap.size w wx))
  case first =>
    cases kk
    · have hne : ¬ (k = 2 ∨ k = 4) := of_decide_eq_false hkk'.out
      have hnn2 := hnn'.out
      rw [if_neg hne] at hnn2
      subst hnn2
      go_wp2_with fail
      go_meet
      case rel => exact ⟨hT1'.out, hT2'.out, hBo'.out, Lib.hid ⟨hOw.out.1, hOw.out.2.1⟩, hb1⟩
    · have hne : k = 2 ∨ k = 4 := of_decide_eq_true hkk'.out
      have hnn2 := hnn'.out
      rw [if_pos hne] at hnn2
      have hC := Lib.hid (hPl.out W5 hb1.out n)
      rw [hnn2] at hC
      clear hnn2 hne
      go_wp2_with (
        go_at_call 50
        refine hC.out.mono ?_
        rintro e w5 ⟨rfl, rfl⟩)
      have hTs := Lib.hid ((Turns.refl (fun g => g = bo) w5).setCell (p := ⟨bo, 1, none⟩) (fun _ => rfl) (.int .i64 nn))
      go_meet
      case rel => exact ⟨hT1'.out.turns hTs.out (fun hh => by have := hbo2.out; omega), hT2'.out.turns hTs.out (fun hh => by have := hbo2.out; omega), hBo'.out.stored 1 (.int .i64 nn), Lib.hid ⟨hOw.out.1.turns hTs.out (fun g hg hh => by have := (hOw.out.2.2.1 g hg).1; omega), hOw.out.2.1.agr (Agr.of_turns hTs.out (fun g _ hd hh => by have := hOw.out.2.2.2 g hd; omega))⟩, Lib.hid (hb1.out.setCell (p := ⟨bo, 1, none⟩) (by have := hbo2.out; show w.heap.size ≤ bo; omega) _)⟩
  case rest =>
  obtain ⟨hT1, hT2, hBo, hOw2, hb2⟩ := hcut
  obtain ⟨W6, hW6⟩ : ∃ W6, W6 = wc := ⟨_, rfl⟩
  subst hW6
  have hpb := Lib.hid hOw.out.2.2.1
  have hD5 := Lib.hid hOw.out.2.2.2
  clear y0 y1 z1 f1 hltB hT1' hT2' hBo' hkk' hPl hOw hb1
  have y0 : W6.cell? ⟨w.heap.size, 0, none⟩ = some (.int .i64 k) := hT1.cell 0
  have y3 : W6.cell? ⟨w.heap.size, 3, none⟩ = some (.slice P3 L3 p3) := hT1.cell 3
  have hltT := Lib.hid hT1.lt
  have hbo3 := Lib.hid hBo.lt
  have hT1' := Lib.hid hT1
  have hT2' := Lib.hid hT2
  have hBo' := Lib.hid hBo
  clear hT1 hT2 hBo
  obtain ⟨k8, hk8⟩ : ∃ k8, (k == 8) = k8 := ⟨_, rfl⟩
  go_upto_if 25 with fail
  have hk8' := Lib.hid hk8
  clear hk8
  go_cut [1, 6] from 26 to 48 (fun s1 s6 wx => ∃ (A' : Option Addr) (m' c' : Nat) (P6 : Option Addr) (m6 p6 : Nat), s1 = .slice A' m' c' ∧ Hid (RDD wx (fun g => g ≠ bo) (.slice A' m' c') Q2) ∧ Lies wx w.heap.size 28 [.int .i64 k, .int .i64 n, .string ⟨s.toArray⟩, .slice P3 L3 p3, .int .i64 d.k, .int .i64 d.n, .string ⟨d.s.toArray⟩, .slice I7 L7 q7, .slice A1 N c1] ∧ Lies wx (w.heap.size + 1) 28 [.int .i64 0, .int .i64 0, .string ⟨#[]⟩, .slice none 0 0, .int .i64 0, .int .i64 0, .string ⟨#[]⟩, .slice none 0 0, .slice none 0 0] ∧ Lies wx bo 28 [.int .i64 k, .int .i64 nn, .string ⟨s.toArray⟩, .slice P6 m6 p6, .int .i64 d.k, .int .i64 d.n, .string ⟨d.s.toArray⟩, .slice I5 L5 q5, .slice K5 N5 r5] ∧ Hid (Own wx 0 (.slice P6 m6 p6) qs ∧ InD wx D5 (.slice I5 L5 q5) d.is ∧ ∀ g, (Value.slice P6 m6 p6).ownBlock = some g → (w.heap.size + 2 ≤ g ∧ g ≠ bo) ∧ ¬ D5 g) ∧ Hid (Below w.heap.size w wx))
  case first =>
    cases k8
    rotate_left
    · have h8' := Lib.hid (show k = 8 from by have := hk8'.out; simpa using this)
      clear hk8'
      go_upto_region 5 with fail
      go_cut [1] from 26 to 33 (fun s1 wx => ∃ (A9 : Option Addr) (c9 : Nat), s1 = .slice A9 (Lv + 1) c9 ∧ Hid (RDD wx (fun g => g ≠ bo) (.slice A9 (Lv + 1) c9) (Rs ++ [ps])) ∧ Hid (Below W6.heap.size W6 wx))
      case first =>
        refine wp_region_held_drew (S := fun w' => Below W6.heap.size W6 w') rfl (below_drew1 (Below.refl _ W6)) (fun hHeld => ?_)
        refine wpAnyH_take (i := 1) (oi := { dst := some 27, op := Go.Op.move (Go.Operand.tmp 1), type := 90, pos := "ref.go:32", after := #[], guard := none }) (v := ?_) rfl (by kernel_rfl) (by kernel_rfl) (by kernel_rfl) (fun _ _ _ h => h) (Or.inl ⟨by rfl, ?_⟩) (by assumption) ?_
        rotate_left
        · intro w hSw; clear hSw; go_simp; try with_reducible rfl
        try simp only [Act.put, List.setIfInBounds_toArray, List.set_cons_zero, List.set_cons_succ]
        refine wpAnyH_take (i := 3) (oi := { dst := some 29, op := Go.Op.fieldAddr 28 (Go.Operand.tmp 2) 3, type := 0, pos := "ref.go:32", after := #[], guard := none }) (v := ?_) rfl (by kernel_rfl) (by kernel_rfl) (by kernel_rfl) (fun _ _ _ h => h) (Or.inl ⟨by rfl, ?_⟩) (by assumption) ?_
        rotate_left
        · intro w hSw; clear hSw; go_simp; try with_reducible rfl
        try simp only [Act.put, List.setIfInBounds_toArray, List.set_cons_zero, List.set_cons_succ]
        refine wpAnyH_take (i := 4) (oi := { dst := some 30, op := Go.Op.load 22 (Go.Operand.tmp 29), type := 22, pos := "ref.go:32", after := #[{ on := 3, ground := Go.Ground.data }], guard := none }) (v := ?_) rfl (by kernel_rfl) (by kernel_rfl) (by kernel_rfl) (fun _ _ _ h => h) (Or.inl ⟨by rfl, ?_⟩) (by assumption) ?_
        rotate_left
        · intro w7 hS7
          have q3 := (Below.cell hS7 (p := ⟨w.heap.size, 3, none⟩) hltT.out).trans y3
          clear hS7
          go_simp
          try with_reducible rfl
        try simp only [Act.put, List.setIfInBounds_toArray, List.set_cons_zero, List.set_cons_succ]
        refine wpAnyH_take (i := 5) (oi := { dst := some 31, op := Go.Op.build 93 #[(0, Go.Operand.tmp 30)], type := 93, pos := "ref.go:32", after := #[{ on := 4, ground := Go.Ground.data }], guard := none }) (v := ?_) rfl (by kernel_rfl) (by kernel_rfl) (by kernel_rfl) (fun _ _ _ h => h) (Or.inl ⟨by rfl, ?_⟩) (by assumption) ?_
        rotate_left
        · intro w hSw; clear hSw; go_simp; try with_reducible rfl
        try simp only [Act.put, List.setIfInBounds_toArray, List.set_cons_zero, List.set_cons_succ]
        refine wpAnyH_ready (rs := [0, 6]) (by kernel_rfl) (by simp) ?_
        refine AllReadyH.cons (o := { dst := some 26, op := Go.Op.buildSlice 90 0 #[], type := 90, pos := "ref.go:32", after := #[], guard := none }) rfl (fun K hK => ?_) ?_
        · skip
          rw [if_pos (by rfl)]
          go_simp
          have hlit := Lib.hid (World.ownsRow_lit (base := W6.heap.size) (e := 93) (size := 1) (W6.drew) #[] 0 hHeld.size (by decide) rfl)
          refine hK.out _ _ (hHeld.alloc hHeld.size _) (fun hHeld => ?_)
          clear hK K
          try simp only [Act.put, List.setIfInBounds_toArray, List.set_cons_zero, List.set_cons_succ]
          refine wpAnyH_ready (rs := [2, 6]) (by kernel_rfl) (by simp) ?_
          refine AllReadyH.cons (o := { dst := some 28, op := Go.Op.call { callee := Go.Callee.builtin Go.Builtin.append, args := #[Go.Operand.tmp 26, Go.Operand.tmp 27], argTypes := #[90, 90] }, type := 90, pos := "ref.go:32", after := #[{ on := 0, ground := Go.Ground.data }, { on := 1, ground := Go.Ground.data }], guard := none }) rfl (fun K hK => ?_) ?_
          · skip
            rw [if_pos (by rfl)]
            have hglt : W6.heap.size ≤ W6.drew.heap.size := Nat.le_refl _
            refine wp_append_ribs (w0 := w) (us := us) (B := W6.heap.size) (v := .slice (some ⟨W6.drew.heap.size, 0, none⟩) 0 0) _ _ 90 rfl Tryz.underlying90 rfl rfl hlit.out husl.out (by have := hl1Q.out; omega) hzAQ.out hcellA.out (Below.trans hb2.out (Below.mono hHeld hb2.out.size)) hblkAQ.out hHeld.size ?_
            intro v10 w10 hr10 hg10 hv10
            have hr10Q := Lib.hid hr10
            have hT10 := Lib.hid (show Turns (fun h => h = W6.drew.heap.size) ((W6.drew).alloc (.cells #[] 93)) w10 from (Turns.refl (fun h => h = W6.drew.heap.size) _).grown hg10 (fun h hk _ => by cases hk; rfl))
            have hb10 := hT10.out.below hHeld.size (fun h hh => by have h1 := hHeld.size; subst hh; first | exact h1 | exact hglt | omega)
            clear hr10 hg10 hv10
            refine hK.out _ _ (hHeld.trans hb10) (fun hHeld => ?_)
            clear hK K
            try simp only [Act.put, List.setIfInBounds_toArray, List.set_cons_zero, List.set_cons_succ]
            refine wpAnyH_ready (rs := [6]) (by kernel_rfl) (by simp) ?_
            refine AllReadyH.cons (o := { dst := some 32, op := Go.Op.buildSlice 90 1 #[(0, Go.Operand.tmp 31)], type := 90, pos := "ref.go:32", after := #[{ on := 5, ground := Go.Ground.data }], guard := none }) rfl (fun K hK => ?_) AllReadyH.nil
            rw [if_pos (by rfl)]
            go_simp
            have hn1 := Lib.hid (own_one (B := 0) (e := 93) (sz := 1) (w10) #[.slice P3 L3 p3] rfl (Nat.zero_le _))
            refine hK.out _ _ (hHeld.alloc hHeld.size _) (fun hHeld => ?_)
            clear hK K
            try simp only [Act.put, List.setIfInBounds_toArray, List.set_cons_zero, List.set_cons_succ]
            refine wpAnyH_ready (rs := [7]) (by kernel_rfl) (by simp) ?_
            refine AllReadyH.cons (o := { dst := some 33, op := Go.Op.call { callee := Go.Callee.builtin Go.Builtin.append, args := #[Go.Operand.tmp 28, Go.Operand.tmp 32], argTypes := #[90, 90] }, type := 90, pos := "ref.go:32", after := #[{ on := 2, ground := Go.Ground.data }, { on := 6, ground := Go.Ground.data }, { on := 2, ground := Go.Ground.chain }], guard := none }) rfl (fun K hK => ?_) AllReadyH.nil
            rw [if_pos (by rfl)]
            refine wp_append_row (m := 1) (.agg #[.slice none 0 0]) 24 Tryz.infoRib rfl (by decide) _ _ 90 rfl Tryz.underlying90 rfl rfl (own_below hr10Q.out ((Below.refl _ w10).alloc (Nat.le_refl _) _)) (hn1.out) (fun u hu => by obtain rfl : u = .slice P3 L3 p3 := (List.mem_singleton.1 hu); rfl) (by have := hl1Q.out; omega) (by omega) hHeld.size ?_
            intro v11 w11 hr11 hg11 hv11
            have hr11Q := Lib.hid hr11
            have hlo10 := World.ownsRow.lt hr10Q.out
            have hb11 := ((Turns.refl (fun h => v10.ownBlock = some h) _).grown hg11 (fun h hk _ => hk)).below hHeld.size (fun h hh => (hlo10 h hh).1)
            obtain ⟨A9, c9, rfl, -⟩ := own_read hr11
            clear hr11 hg11 hv11 hlo10
            refine hK.out _ _ (hHeld.trans hb11) (fun hHeld => ?_)
            clear hK K
            try simp only [Act.put, List.setIfInBounds_toArray, List.set_cons_zero, List.set_cons_succ]
            refine wpAnyH_take (i := 8) (oi := { dst := some 1, op := Go.Op.assign (Go.Operand.tmp 33), type := 90, pos := "ref.go:32", after := #[{ on := 7, ground := Go.Ground.data }, { on := 7, ground := Go.Ground.chain }, { on := 0, ground := Go.Ground.phase }, { on := 1, ground := Go.Ground.phase }, { on := 2, ground := Go.Ground.phase }, { on := 3, ground := Go.Ground.phase }, { on := 4, ground := Go.Ground.phase }, { on := 5, ground := Go.Ground.phase }, { on := 6, ground := Go.Ground.phase }, { on := 7, ground := Go.Ground.phase }], guard := none }) (v := ?_) rfl (by kernel_rfl) (by kernel_rfl) (by kernel_rfl) (fun _ _ _ h => h) (Or.inl ⟨by rfl, ?_⟩) (by assumption) ?_
            rotate_left
            · intro w hSw; clear hSw; go_simp; try with_reducible rfl
            try simp only [Act.put, List.setIfInBounds_toArray, List.set_cons_zero, List.set_cons_succ]
            refine wpAnyH_done (by kernel_rfl) ?_ _
            have hb12 := Lib.hid hHeld
            clear hHeld
            go_wp2_with fail
            go_meet
            case rel =>
              exact ⟨A9, c9, rfl, Lib.hid (RIn.plus hRxQ.out hTpQ.out (by have := hL3Q.out; have := hplQ.out; omega) (by have := hl1Q.out; omega) (by rw [← hl1Q.out.2.2]; exact hr11Q.out) (Below.trans hb2.out (Below.mono hb12.out hb2.out.size)) (by have := hbo2.out; omega) (fun g hg => by have h1 := (World.ownsRow.lt hr11Q.out g hg).1; have h2 := hbo3.out; omega)), hb12⟩
          refine AllReadyH.cons (o := { dst := some 32, op := Go.Op.buildSlice 90 1 #[(0, Go.Operand.tmp 31)], type := 90, pos := "ref.go:32", after := #[{ on := 5, ground := Go.Ground.data }], guard := none }) rfl (fun K hK => ?_) AllReadyH.nil
          · skip
            rw [if_pos (by rfl)]
            go_simp
            have hn0 := (own_one (B := 0) (e := 93) (sz := 1) ((W6.drew).alloc (.cells #[] 93)) #[.slice P3 L3 p3] rfl (Nat.zero_le _))
            rw [show ((W6.drew).alloc (.cells #[] 93)).heap.size = W6.heap.size + 1 from by simp] at hn0
            have hn1 := Lib.hid hn0
            clear hn0
            refine hK.out _ _ (hHeld.alloc hHeld.size _) (fun hHeld => ?_)
            clear hK K
            try simp only [Act.put, List.setIfInBounds_toArray, List.set_cons_zero, List.set_cons_succ]
            refine wpAnyH_ready (rs := [2]) (by kernel_rfl) (by simp) ?_
            refine AllReadyH.cons (o := { dst := some 28, op := Go.Op.call { callee := Go.Callee.builtin Go.Builtin.append, args := #[Go.Operand.tmp 26, Go.Operand.tmp 27], argTypes := #[90, 90] }, type := 90, pos := "ref.go:32", after := #[{ on := 0, ground := Go.Ground.data }, { on := 1, ground := Go.Ground.data }], guard := none }) rfl (fun K hK => ?_) AllReadyH.nil
            rw [if_pos (by rfl)]
            have hglt : W6.heap.size ≤ W6.drew.heap.size := Nat.le_refl _
            refine wp_append_ribs (w0 := w) (us := us) (B := W6.heap.size) (v := .slice (some ⟨W6.drew.heap.size, 0, none⟩) 0 0) _ _ 90 rfl Tryz.underlying90 rfl rfl (own_below hlit.out ((Below.refl _ _).alloc (Nat.le_refl _) _)) husl.out (by have := hl1Q.out; omega) hzAQ.out hcellA.out (Below.trans hb2.out (Below.mono hHeld hb2.out.size)) hblkAQ.out hHeld.size ?_
            intro v10 w10 hr10 hg10 hv10
            have hr10Q := Lib.hid hr10
            have hT10 := Lib.hid (show Turns (fun h => h = W6.drew.heap.size) (((W6.drew).alloc (.cells #[] 93)).alloc (.cells #[.slice P3 L3 p3] 93)) w10 from (Turns.refl (fun h => h = W6.drew.heap.size) _).grown hg10 (fun h hk _ => by cases hk; rfl))
            have hn2 := Lib.hid (own_turns hn1.out hT10.out (fun h hh e => by have e2 : h = W6.drew.heap.size := e; simp [Value.ownBlock] at hh e2; omega))
            have hb10 := hT10.out.below hHeld.size (fun h hh => by have h1 := hHeld.size; subst hh; first | exact h1 | exact hglt | omega)
            clear hr10 hg10 hv10
            refine hK.out _ _ (hHeld.trans hb10) (fun hHeld => ?_)
            clear hK K
            try simp only [Act.put, List.setIfInBounds_toArray, List.set_cons_zero, List.set_cons_succ]
            refine wpAnyH_ready (rs := [7]) (by kernel_rfl) (by simp) ?_
            refine AllReadyH.cons (o := { dst := some 33, op := Go.Op.call { callee := Go.Callee.builtin Go.Builtin.append, args := #[Go.Operand.tmp 28, Go.Operand.tmp 32], argTypes := #[90, 90] }, type := 90, pos := "ref.go:32", after := #[{ on := 2, ground := Go.Ground.data }, { on := 6, ground := Go.Ground.data }, { on := 2, ground := Go.Ground.chain }], guard := none }) rfl (fun K hK => ?_) AllReadyH.nil
            rw [if_pos (by rfl)]
            refine wp_append_row (m := 1) (.agg #[.slice none 0 0]) 24 Tryz.infoRib rfl (by decide) _ _ 90 rfl Tryz.underlying90 rfl rfl (hr10Q.out) (hn2.out) (fun u hu => by obtain rfl : u = .slice P3 L3 p3 := (List.mem_singleton.1 hu); rfl) (by have := hl1Q.out; omega) (by omega) hHeld.size ?_
            intro v11 w11 hr11 hg11 hv11
            have hr11Q := Lib.hid hr11
            have hlo10 := World.ownsRow.lt hr10Q.out
            have hb11 := ((Turns.refl (fun h => v10.ownBlock = some h) _).grown hg11 (fun h hk _ => hk)).below hHeld.size (fun h hh => (hlo10 h hh).1)
            obtain ⟨A9, c9, rfl, -⟩ := own_read hr11
            clear hr11 hg11 hv11 hlo10
            refine hK.out _ _ (hHeld.trans hb11) (fun hHeld => ?_)
            clear hK K
            try simp only [Act.put, List.setIfInBounds_toArray, List.set_cons_zero, List.set_cons_succ]
            refine wpAnyH_take (i := 8) (oi := { dst := some 1, op := Go.Op.assign (Go.Operand.tmp 33), type := 90, pos := "ref.go:32", after := #[{ on := 7, ground := Go.Ground.data }, { on := 7, ground := Go.Ground.chain }, { on := 0, ground := Go.Ground.phase }, { on := 1, ground := Go.Ground.phase }, { on := 2, ground := Go.Ground.phase }, { on := 3, ground := Go.Ground.phase }, { on := 4, ground := Go.Ground.phase }, { on := 5, ground := Go.Ground.phase }, { on := 6, ground := Go.Ground.phase }, { on := 7, ground := Go.Ground.phase }], guard := none }) (v := ?_) rfl (by kernel_rfl) (by kernel_rfl) (by kernel_rfl) (fun _ _ _ h => h) (Or.inl ⟨by rfl, ?_⟩) (by assumption) ?_
            rotate_left
            · intro w hSw; clear hSw; go_simp; try with_reducible rfl
            try simp only [Act.put, List.setIfInBounds_toArray, List.set_cons_zero, List.set_cons_succ]
            refine wpAnyH_done (by kernel_rfl) ?_ _
            have hb12 := Lib.hid hHeld
            clear hHeld
            go_wp2_with fail
            go_meet
            case rel =>
              exact ⟨A9, c9, rfl, Lib.hid (RIn.plus hRxQ.out hTpQ.out (by have := hL3Q.out; have := hplQ.out; omega) (by have := hl1Q.out; omega) (by rw [← hl1Q.out.2.2]; exact hr11Q.out) (Below.trans hb2.out (Below.mono hb12.out hb2.out.size)) (by have := hbo2.out; omega) (fun g hg => by have h1 := (World.ownsRow.lt hr11Q.out g hg).1; have h2 := hbo3.out; omega)), hb12⟩
        refine AllReadyH.cons (o := { dst := some 32, op := Go.Op.buildSlice 90 1 #[(0, Go.Operand.tmp 31)], type := 90, pos := "ref.go:32", after := #[{ on := 5, ground := Go.Ground.data }], guard := none }) rfl (fun K hK => ?_) AllReadyH.nil
        · skip
          rw [if_pos (by rfl)]
          go_simp
          have hn1 := Lib.hid (own_one (B := 0) (e := 93) (sz := 1) (W6.drew) #[.slice P3 L3 p3] rfl (Nat.zero_le _))
          refine hK.out _ _ (hHeld.alloc hHeld.size _) (fun hHeld => ?_)
          clear hK K
          try simp only [Act.put, List.setIfInBounds_toArray, List.set_cons_zero, List.set_cons_succ]
          refine wpAnyH_ready (rs := [0]) (by kernel_rfl) (by simp) ?_
          refine AllReadyH.cons (o := { dst := some 26, op := Go.Op.buildSlice 90 0 #[], type := 90, pos := "ref.go:32", after := #[], guard := none }) rfl (fun K hK => ?_) AllReadyH.nil
          rw [if_pos (by rfl)]
          go_simp
          have hlit0 := (World.ownsRow_lit (base := W6.heap.size) (e := 93) (size := 1) ((W6.drew).alloc (.cells #[.slice P3 L3 p3] 93)) #[] 0 hHeld.size (by decide) rfl)
          rw [show ((W6.drew).alloc (.cells #[.slice P3 L3 p3] 93)).heap.size = W6.heap.size + 1 from by simp] at hlit0
          have hlit := Lib.hid hlit0
          clear hlit0
          refine hK.out _ _ (hHeld.alloc hHeld.size _) (fun hHeld => ?_)
          clear hK K
          try simp only [Act.put, List.setIfInBounds_toArray, List.set_cons_zero, List.set_cons_succ]
          refine wpAnyH_ready (rs := [2]) (by kernel_rfl) (by simp) ?_
          refine AllReadyH.cons (o := { dst := some 28, op := Go.Op.call { callee := Go.Callee.builtin Go.Builtin.append, args := #[Go.Operand.tmp 26, Go.Operand.tmp 27], argTypes := #[90, 90] }, type := 90, pos := "ref.go:32", after := #[{ on := 0, ground := Go.Ground.data }, { on := 1, ground := Go.Ground.data }], guard := none }) rfl (fun K hK => ?_) AllReadyH.nil
          rw [if_pos (by rfl)]
          have hglt : W6.heap.size ≤ W6.heap.size + 1 := by omega
          refine wp_append_ribs (w0 := w) (us := us) (B := W6.heap.size) (v := .slice (some ⟨W6.heap.size + 1, 0, none⟩) 0 0) _ _ 90 rfl Tryz.underlying90 rfl rfl hlit.out husl.out (by have := hl1Q.out; omega) hzAQ.out hcellA.out (Below.trans hb2.out (Below.mono hHeld hb2.out.size)) hblkAQ.out hHeld.size ?_
          intro v10 w10 hr10 hg10 hv10
          have hr10Q := Lib.hid hr10
          have hT10 := Lib.hid (show Turns (fun h => h = W6.heap.size + 1) (((W6.drew).alloc (.cells #[.slice P3 L3 p3] 93)).alloc (.cells #[] 93)) w10 from (Turns.refl (fun h => h = W6.heap.size + 1) _).grown hg10 (fun h hk _ => by cases hk; rfl))
          have hn2 := Lib.hid (own_turns (own_below hn1.out ((Below.refl _ _).alloc (Nat.le_refl _) _)) hT10.out (fun h hh e => by have e2 : h = W6.heap.size + 1 := e; simp [Value.ownBlock] at hh; omega))
          have hb10 := hT10.out.below hHeld.size (fun h hh => by have h1 := hHeld.size; subst hh; first | exact h1 | exact hglt | omega)
          clear hr10 hg10 hv10
          refine hK.out _ _ (hHeld.trans hb10) (fun hHeld => ?_)
          clear hK K
          try simp only [Act.put, List.setIfInBounds_toArray, List.set_cons_zero, List.set_cons_succ]
          refine wpAnyH_ready (rs := [7]) (by kernel_rfl) (by simp) ?_
          refine AllReadyH.cons (o := { dst := some 33, op := Go.Op.call { callee := Go.Callee.builtin Go.Builtin.append, args := #[Go.Operand.tmp 28, Go.Operand.tmp 32], argTypes := #[90, 90] }, type := 90, pos := "ref.go:32", after := #[{ on := 2, ground := Go.Ground.data }, { on := 6, ground := Go.Ground.data }, { on := 2, ground := Go.Ground.chain }], guard := none }) rfl (fun K hK => ?_) AllReadyH.nil
          rw [if_pos (by rfl)]
          refine wp_append_row (m := 1) (.agg #[.slice none 0 0]) 24 Tryz.infoRib rfl (by decide) _ _ 90 rfl Tryz.underlying90 rfl rfl (hr10Q.out) (hn2.out) (fun u hu => by obtain rfl : u = .slice P3 L3 p3 := (List.mem_singleton.1 hu); rfl) (by have := hl1Q.out; omega) (by omega) hHeld.size ?_
          intro v11 w11 hr11 hg11 hv11
          have hr11Q := Lib.hid hr11
          have hlo10 := World.ownsRow.lt hr10Q.out
          have hb11 := ((Turns.refl (fun h => v10.ownBlock = some h) _).grown hg11 (fun h hk _ => hk)).below hHeld.size (fun h hh => (hlo10 h hh).1)
          obtain ⟨A9, c9, rfl, -⟩ := own_read hr11
          clear hr11 hg11 hv11 hlo10
          refine hK.out _ _ (hHeld.trans hb11) (fun hHeld => ?_)
          clear hK K
          try simp only [Act.put, List.setIfInBounds_toArray, List.set_cons_zero, List.set_cons_succ]
          refine wpAnyH_take (i := 8) (oi := { dst := some 1, op := Go.Op.assign (Go.Operand.tmp 33), type := 90, pos := "ref.go:32", after := #[{ on := 7, ground := Go.Ground.data }, { on := 7, ground := Go.Ground.chain }, { on := 0, ground := Go.Ground.phase }, { on := 1, ground := Go.Ground.phase }, { on := 2, ground := Go.Ground.phase }, { on := 3, ground := Go.Ground.phase }, { on := 4, ground := Go.Ground.phase }, { on := 5, ground := Go.Ground.phase }, { on := 6, ground := Go.Ground.phase }, { on := 7, ground := Go.Ground.phase }], guard := none }) (v := ?_) rfl (by kernel_rfl) (by kernel_rfl) (by kernel_rfl) (fun _ _ _ h => h) (Or.inl ⟨by rfl, ?_⟩) (by assumption) ?_
          rotate_left
          · intro w hSw; clear hSw; go_simp; try with_reducible rfl
          try simp only [Act.put, List.setIfInBounds_toArray, List.set_cons_zero, List.set_cons_succ]
          refine wpAnyH_done (by kernel_rfl) ?_ _
          have hb12 := Lib.hid hHeld
          clear hHeld
          go_wp2_with fail
          go_meet
          case rel =>
            exact ⟨A9, c9, rfl, Lib.hid (RIn.plus hRxQ.out hTpQ.out (by have := hL3Q.out; have := hplQ.out; omega) (by have := hl1Q.out; omega) (by rw [← hl1Q.out.2.2]; exact hr11Q.out) (Below.trans hb2.out (Below.mono hb12.out hb2.out.size)) (by have := hbo2.out; omega) (fun g hg => by have h1 := (World.ownsRow.lt hr11Q.out g hg).1; have h2 := hbo3.out; omega)), hb12⟩
      case rest =>
      obtain ⟨A9, c9, rfl, hRD, hbB⟩ := hcut
      obtain ⟨W7, hW7⟩ : ∃ W7, W7 = wc := ⟨_, rfl⟩
      subst hW7
      have hT17 := hT1'.out.below hbB.out hT1'.out.lt
      have hT27 := hT2'.out.below hbB.out hT2'.out.lt
      have hBo7 := hBo'.out.below hbB.out hBo'.out.lt
      have hKK := Lib.hid (And.intro (hOw2.out.2.agr (Agr.of_below hbB.out)) (hb2.out.trans (Below.mono hbB.out hb2.out.size)))
      clear y0 y3 hT1' hT2' hBo' hOw2 hb2 hbB hcellA hzAQ hblkAQ
      have z3 : W7.cell? ⟨bo, 3, none⟩ = some (.slice P5 M5 p5) := hBo7.cell 3
      have f3 := hBo7.free 3
      have hltB := hBo7.lt
      have hboS := Lib.hid hBo7.lt
      have hTs := Lib.hid ((Turns.refl (fun g => g = bo) W7).setCell (p := ⟨bo, 3, none⟩) (fun _ => rfl) (.slice none 0 0))
      have hBo8 := hBo7.stored 3 (.slice none 0 0)
      simp only [List.set_cons_succ, List.set_cons_zero] at hBo8
      have hS := Lib.hid (And.intro (hT17.turns hTs.out (fun hh => by have := hbo2.out; omega)) (And.intro (hT27.turns hTs.out (fun hh => by have := hbo2.out; omega)) hBo8))
      have hKS := Lib.hid (And.intro (Own.none_ (W7.setCell ⟨bo, 3, none⟩ (.slice none 0 0)) W7.heap.size) (And.intro (hKK.out.1.agr (Agr.of_turns hTs.out (fun g _ hd hh => by have := hD5.out g hd; omega))) (And.intro ((hRD.out.mono (D' := fun g => g < W7.heap.size ∧ g ≠ bo) (fun g h1 h2 => ⟨h1, h2⟩)).turns hTs.out (fun g _ hd hh => hd.2 hh)) (And.intro (hKK.out.2.setCell (p := ⟨bo, 3, none⟩) (by have := hbo2.out; show w.heap.size ≤ bo; omega) (.slice none 0 0)) hTs.out.size))))
      clear hT17 hT27 hBo7 hBo8 hTs hKK hRD
      go_wp2_with fail
      go_loopw [6] (fun i wr => ∃ (j : Nat) (P9 : Option Addr) (m9 p9 : Nat), j ≤ L3 ∧ i = .int .i64 j ∧ Hid (Lies wr w.heap.size 28 [.int .i64 k, .int .i64 n, .string ⟨s.toArray⟩, .slice P3 L3 p3, .int .i64 d.k, .int .i64 d.n, .string ⟨d.s.toArray⟩, .slice I7 L7 q7, .slice A1 N c1] ∧ Lies wr (w.heap.size + 1) 28 [.int .i64 0, .int .i64 0, .string ⟨#[]⟩, .slice none 0 0, .int .i64 0, .int .i64 0, .string ⟨#[]⟩, .slice none 0 0, .slice none 0 0] ∧ Lies wr bo 28 [.int .i64 k, .int .i64 nn, .string ⟨s.toArray⟩, .slice P9 m9 p9, .int .i64 d.k, .int .i64 d.n, .string ⟨d.s.toArray⟩, .slice I5 L5 q5, .slice K5 N5 r5]) ∧ Hid (Own wr W7.heap.size (.slice P9 m9 p9) (SC.up1 j) ∧ InD wr D5 (.slice I5 L5 q5) d.is ∧ RDD wr (fun g => g < W7.heap.size ∧ g ≠ bo) (.slice A9 (Lv + 1) c9) (Rs ++ [ps]) ∧ Below w.heap.size w wr ∧ W7.heap.size ≤ wr.heap.size)) (fun i _ => L3 - (intOf i).toNat)
      case atStart => exact ⟨0, _, _, _, Nat.zero_le _, rfl, hS, hKS⟩
      case round =>
        obtain ⟨j, P9, m9, p9, hj, rfl, hS1, hK1⟩ := hrel
        clear hS hKS z3 f3 hltB
        have y3 : wr.cell? ⟨w.heap.size, 3, none⟩ = some (.slice P3 L3 p3) := hS1.out.1.cell 3
        have hL3b : L3 ≤ 100000 := by have := hplQ.out; have := hL3Q.out; omega
        by_cases hlt : j < L3
        · have z3 : wr.cell? ⟨bo, 3, none⟩ = some (.slice P9 m9 p9) := hS1.out.2.2.cell 3
          have hln : (SC.up1 j).length = j := SC.up1_len j
          have hln' := Lib.hid hln
          clear hln
          go_wp2_with (
            at_builtin
            refine wpList_append_ints (B := W7.heap.size) (v := .slice P9 m9 p9) (x := .slice (some ⟨wr.heap.size, 0, none⟩) 1 1) (B' := 0) rfl _ _ 22 rfl Tryz.underlying22 rfl rfl (hK1.out.1.turns ((Turns.refl (fun _ => False) _).alloc _) (fun _ _ h => h)) (Own.one wr ((j : Int) + 1) (Nat.zero_le _)) (by rw [hln'.out]; simp; have := hplQ.out; have := hL3Q.out; omega) (by have := hK1.out.2.2.2.2; simp; omega) ?_
            intro v9 w9 hown9 hg9 hat9
            have T1 := ((Turns.refl (fun g => (Value.slice P9 m9 p9).ownBlock = some g) wr).alloc (.cells #[.int .i64 ((j : Int) + 1)] 3)).then (Turns.appended hg9) (fun _ _ h => h)
            have hlo := hK1.out.1.lt
            rw [← up1_snoc] at hown9
            obtain ⟨P8, m8, p8, rfl⟩ := slice_of hown9
            have hT9 := Lib.hid T1
            have hlo' := Lib.hid hlo
            have hB9 := hS1.out.2.2.turns T1 (fun hh => by have := (hlo _ hh).1; have := hboS.out; omega)
            have z39 := hB9.cell 3
            have f39 := hB9.free 3
            have l39 := hB9.lt
            simp only [List.getElem?_cons_succ, List.getElem?_cons_zero] at z39
            have hB9' := Lib.hid hB9
            have hown9' := Lib.hid hown9
            clear hown9 hg9 hat9 T1 hlo hB9)
          go_roundw
          case rel =>
            have hTs := (Turns.refl (fun g => g = bo) w9).setCell (p := ⟨bo, 3, none⟩) (fun _ => rfl) (.slice P8 m8 p8)
            have hTT := (hT9.out.mono (Y := fun g => (Value.slice P9 m9 p9).ownBlock = some g ∨ g = bo) (fun _ _ h => .inl h)).then (hTs.mono (Y := fun g => (Value.slice P9 m9 p9).ownBlock = some g ∨ g = bo) (fun _ _ h => .inr h)) (fun _ _ h => h)
            have hB10 := hB9'.out.stored 3 (.slice P8 m8 p8)
            simp only [List.set_cons_succ, List.set_cons_zero] at hB10
            have b1 := hboS.out
            have b2 := hbo2.out
            refine ⟨j + 1, P8, m8, p8, by omega, by go_num, Lib.hid ⟨hS1.out.1.turns hTT (fun hh => ?_), hS1.out.2.1.turns hTT (fun hh => ?_), hB10⟩, Lib.hid ⟨hown9'.out.turns hTs (fun g hg hh => ?_), hK1.out.2.1.agr (Agr.of_turns hTT (fun g _ hd hh => ?_)), hK1.out.2.2.1.turns hTT (fun g _ hd hh => ?_), hK1.out.2.2.2.1.trans (hTT.below hK1.out.2.2.2.1.size (fun g hh => ?_)), Nat.le_trans hK1.out.2.2.2.2 hTT.size⟩⟩
            · rcases hh with hh | hh
              · have := (hlo'.out _ hh).1; omega
              · omega
            · rcases hh with hh | hh
              · have := (hlo'.out _ hh).1; omega
              · omega
            · have e2 : g = bo := hh
              have := (hown9'.out.lt g hg).1
              omega
            · have := hD5.out g hd
              rcases hh with hh | hh
              · have := (hlo'.out _ hh).1; omega
              · omega
            · have h9 : g < W7.heap.size ∧ g ≠ bo := hd
              rcases hh with hh | hh
              · have := (hlo'.out _ hh).1; omega
              · omega
            · rcases hh with hh | hh
              · have := (hlo'.out _ hh).1; omega
              · omega
          case measure => simp [intOf]; omega
        · obtain rfl : j = L3 := by omega
          go_wp2_with fail
          go_meet
          case rel => exact ⟨_, _, _, P9, m9, p9, rfl, Lib.hid (by rw [← hQ2'.out, if_pos h8'.out]; exact hK1.out.2.2.1.mono (fun g _ h => h.2)), hS1.out.1, hS1.out.2.1, hS1.out.2.2, Lib.hid ⟨by rw [← hqs'.out, if_pos h8'.out, hL3Q.out]; exact hK1.out.1.base (B' := 0) (Nat.zero_le _), hK1.out.2.1, fun g hg => ⟨by have h1 := (hK1.out.1.lt g hg).1; have h2 := hboS.out; have h3 := hbo2.out; exact ⟨by omega, by omega⟩, fun hd => by have h1 := (hK1.out.1.lt g hg).1; have h2 := hboS.out; have h4 := hD5.out g hd; omega⟩⟩, Lib.hid hK1.out.2.2.2.1⟩
    · have h8' := Lib.hid (show ¬ k = 8 from by have := hk8'.out; simpa using this)
      clear hk8'
      go_wp2_with fail
      go_meet
      case rel => exact ⟨_, _, _, _, _, _, rfl, Lib.hid (by rw [← hQ2'.out, if_neg h8'.out]; exact hv'.out.rd (by have := hbo2.out; omega) hb2.out), hT1'.out, hT2'.out, hBo'.out, Lib.hid ⟨by rw [← hqs'.out, if_neg h8'.out]; exact hOw2.out.1, hOw2.out.2, fun g hg => by have := hpb.out g hg; exact ⟨⟨this.1.1, by omega⟩, this.2⟩⟩, hb2⟩
  case rest =>
  obtain ⟨A', m', c', P6, m6, p6, rfl, hRD, hT1, hT2, hBo, hOw3, hb3⟩ := hcut
  obtain ⟨W8, hW8⟩ : ∃ W8, W8 = wc := ⟨_, rfl⟩
  subst hW8
  have hqb := Lib.hid hOw3.out.2.2
  clear y0 y3 hT1' hT2' hBo' hOw2 hb2 hcellA hzAQ hblkAQ hnn' hpb hltT hbo3
  have hltT := Lib.hid hT1.lt
  have hMw := Lib.hid (show w.heap.size + 2 ≤ W8.heap.size by have := hbo2.out; have := hBo.lt; omega)
  have hboM := Lib.hid hBo.lt
  have z8 : W8.cell? ⟨bo, 8, none⟩ = some (.slice K5 N5 r5) := hBo.cell 8
  have f8 := hBo.free 8
  have l8 := hBo.lt
  have hTs := Lib.hid ((Turns.refl (fun g => g = bo) W8).setCell (p := ⟨bo, 8, none⟩) (fun _ => rfl) (.slice none 0 0))
  have hBo8 := hBo.stored 8 (.slice none 0 0)
  simp only [List.set_cons_succ, List.set_cons_zero] at hBo8
  have hpM := Lib.hid hOw3.out.1.lt
  have hK0 := Lib.hid (And.intro (hT1.turns hTs.out (fun hh => by have := hbo2.out; omega)) (And.intro (hT2.turns hTs.out (fun hh => by have := hbo2.out; omega)) (And.intro (hOw3.out.1.turns hTs.out (fun g hg hh => (hOw3.out.2.2 g hg).1.2 hh)) (And.intro (hOw3.out.2.1.agr (Agr.of_turns hTs.out (fun g _ hd hh => by have := hD5.out g hd; omega))) (And.intro ((hRD.out.mono (D' := fun g => g < W8.heap.size ∧ g ≠ bo) (fun g h1 h2 => ⟨h1, h2⟩)).turns hTs.out (fun g _ hd hh => hd.2 hh)) (hb3.out.setCell (p := ⟨bo, 8, none⟩) (by have := hbo2.out; show w.heap.size ≤ bo; omega) (.slice none 0 0)))))))
  have hBo8' := Lib.hid hBo8
  have hsz8 := Lib.hid hTs.out.size
  clear hT1 hT2 hBo hBo8 hOw3 hb3 hRD hTs
  go_wp2_with fail
  go_loopw [7] (fun i wr => ∃ (j : Nat) (A8 : Option Addr) (m8 c8 : Nat), j ≤ N ∧ i = .int .i64 j ∧ Hid (NewR W8.heap.size wr ((SC.rsl R2 ks).tk j) (.slice A8 m8 c8)) ∧ Hid (Lies wr w.heap.size 28 [.int .i64 k, .int .i64 n, .string ⟨s.toArray⟩, .slice P3 L3 p3, .int .i64 d.k, .int .i64 d.n, .string ⟨d.s.toArray⟩, .slice I7 L7 q7, .slice A1 N c1] ∧ Lies wr (w.heap.size + 1) 28 [.int .i64 0, .int .i64 0, .string ⟨#[]⟩, .slice none 0 0, .int .i64 0, .int .i64 0, .string ⟨#[]⟩, .slice none 0 0, .slice none 0 0] ∧ Own wr 0 (.slice P6 m6 p6) qs ∧ InD wr D5 (.slice I5 L5 q5) d.is ∧ RDD wr (fun g => g < W8.heap.size ∧ g ≠ bo) (.slice A' m' c') Q2 ∧ Below w.heap.size w wr) ∧ Hid (Lies wr bo 28 [.int .i64 k, .int .i64 nn, .string ⟨s.toArray⟩, .slice P6 m6 p6, .int .i64 d.k, .int .i64 d.n, .string ⟨d.s.toArray⟩, .slice I5 L5 q5, .slice A8 m8 c8]) ∧ W8.heap.size ≤ wr.heap.size) (fun i _ => N - (intOf i).toNat)
  case atStart => exact ⟨0, _, _, _, Nat.zero_le _, rfl, Lib.hid (by rw [Tl.tk_zero]; exact NewR.nil _ _), hK0, hBo8', hsz8.out⟩
  case round =>
    obtain ⟨j, A8, m8, c8, hj, rfl, hI, hK3, hBd, hw9⟩ := hrel
    clear z8 f8 l8 hK0 hBo8' hsz8
    have hNb : N ≤ 5000 := hj'.out
    have hw99 := Lib.hid hw9
    have hw9r := Lib.hid hw9
    have y8 : wr.cell? ⟨w.heap.size, 8, none⟩ = some (.slice A1 N c1) := hK3.out.1.cell 8
    have htl : ((SC.rsl R2 ks).tk j).len = j := Tl.tk_len _ j (by rw [SC.rsl_len, hN'.out]; exact hj)
    obtain rfl : m8 = j := by
      obtain ⟨_, _, e⟩ := hI.out.read
      injection e with e1 e2 e3
      rw [e2, htl]
    by_cases hlt : m8 < N
    · obtain ⟨x, hx⟩ := ks.at_some m8 (by rw [hN'.out]; exact hlt)
      obtain ⟨b, o, P5', p5', I5', q5', K5', r5', rfl, hb0, c10, c11, c12, c13, c14, c15, c16, c17, c18, hT5⟩ := hTk'.out.at_ hx
      have d10 := (Below.cell hK3.out.2.2.2.2.2 (p := ⟨b, _, none⟩) hb0).trans c10
      have d11 := (Below.cell hK3.out.2.2.2.2.2 (p := ⟨b, _, none⟩) hb0).trans c11
      have d12 := (Below.cell hK3.out.2.2.2.2.2 (p := ⟨b, _, none⟩) hb0).trans c12
      have d13 := (Below.cell hK3.out.2.2.2.2.2 (p := ⟨b, _, none⟩) hb0).trans c13
      have d14 := (Below.cell hK3.out.2.2.2.2.2 (p := ⟨b, _, none⟩) hb0).trans c14
      have d15 := (Below.cell hK3.out.2.2.2.2.2 (p := ⟨b, _, none⟩) hb0).trans c15
      have d16 := (Below.cell hK3.out.2.2.2.2.2 (p := ⟨b, _, none⟩) hb0).trans c16
      have d17 := (Below.cell hK3.out.2.2.2.2.2 (p := ⟨b, _, none⟩) hb0).trans c17
      have d18 := (Below.cell hK3.out.2.2.2.2.2 (p := ⟨b, _, none⟩) hb0).trans c18
      have hb0r := Lib.hid (show b < wr.heap.size from Nat.lt_of_lt_of_le hb0 hK3.out.2.2.2.2.2.size)
      have hb0l := Lib.hid (show b ≤ w.heap.size from Nat.le_of_lt hb0)
      have hltT' := hltT
      clear hltT
      have hltT := Lib.hid (show w.heap.size < wr.heap.size from hK3.out.1.lt)
      have hltO := Lib.hid (show bo < wr.heap.size from hBd.out.lt)
      have yo : wr.cell? ⟨bo, 8, none⟩ = some (.slice A8 m8 c8) := hBd.out.cell 8
      have ydo : wr.drew.cell? ⟨bo, 8, none⟩ = some (.slice A8 m8 c8) := hBd.out.drew.cell 8
      have hup := TM.sz_in hx
      have hih := TM.hi_in hx
      have hC := Lib.hid (hR'.out m8 x hx wr.drew _ Q2 _ _ _ ((hT5.below hK3.out.2.2.2.2.2).drew) (hK3.out.2.2.2.2.1.rin.below (below_drew1 (Below.refl _ wr))) (TM.sdl_in hsd'.out hx) (by have := hsz'.out; omega) (by have := hhi'.out; have := hQl'.out; omega))
      rw [hR2'.out] at hC
      have hsn := Tl.tk_snoc _ m8 _ (SC.rsl_at R2 hx)
      generalize (SC.rsl R2 ks).tk m8 = outj at hI hsn htl ⊢
      have hsn' := Lib.hid hsn
      have htl' := Lib.hid htl
      have hI' := Lib.hid (show NewR W8.heap.size wr.drew outj (.slice A8 m8 c8) from hI.out.turns (Turns.refl (fun _ => False) wr).drew (fun _ h => h.elim))
      have hlo := Lib.hid hI.out.lt
      generalize SC.rs1 R2 x = y at hC hsn'
      unfold tmv at hC
      clear hx hup hih hsn htl hT5 hI c10 c11 c12 c13 c14 c15 c16 c17 c18 hb0 hw9
      go_upto_region 15 with fail
      refine wp_region_held_drew (S := fun w' => Agr (fun g => g ≤ w.heap.size) wr w') rfl ⟨Nat.le_refl _, fun _ _ _ => rfl⟩ (fun hHeld => ?_)
      refine wpAnyH_take (i := 0) (oi := { dst := some 57, op := Go.Op.fieldAddr 28 (Go.Operand.tmp 5) 5, type := 0, pos := "ref.go:40", after := #[], guard := none }) (v := ?_) rfl (by kernel_rfl) (by kernel_rfl) (by kernel_rfl) (fun _ _ _ h => h) (Or.inl ⟨by rfl, ?_⟩) (by assumption) ?_
      rotate_left
      · intro w hSw; clear hSw; go_simp; try with_reducible rfl
      try simp only [Act.put, List.setIfInBounds_toArray, List.set_cons_zero, List.set_cons_succ]
      refine wpAnyH_take (i := 2) (oi := { dst := some 59, op := Go.Op.fieldAddr 28 (Go.Operand.tmp 2) 5, type := 0, pos := "ref.go:40", after := #[], guard := none }) (v := ?_) rfl (by kernel_rfl) (by kernel_rfl) (by kernel_rfl) (fun _ _ _ h => h) (Or.inl ⟨by rfl, ?_⟩) (by assumption) ?_
      rotate_left
      · intro w hSw; clear hSw; go_simp; try with_reducible rfl
      try simp only [Act.put, List.setIfInBounds_toArray, List.set_cons_zero, List.set_cons_succ]
      refine wpAnyH_take (i := 3) (oi := { dst := some 60, op := Go.Op.load 26 (Go.Operand.tmp 59), type := 26, pos := "ref.go:40", after := #[{ on := 2, ground := Go.Ground.data }], guard := none }) (v := ?_) rfl (by kernel_rfl) (by kernel_rfl) (by kernel_rfl) (fun _ _ _ h => h) (Or.inl ⟨by rfl, ?_⟩) (by assumption) ?_
      rotate_left
      · intro w7 hS7
        have q8 := hS7.cell_ hltT.out (Nat.le_refl _) y8
        clear hS7
        go_simp
        try with_reducible rfl
      try simp only [Act.put, List.setIfInBounds_toArray, List.set_cons_zero, List.set_cons_succ]
      refine wpAnyH_take (i := 4) (oi := { dst := some 61, op := Go.Op.move (Go.Operand.tmp 7), type := 3, pos := "ref.go:40", after := #[], guard := none }) (v := ?_) rfl (by kernel_rfl) (by kernel_rfl) (by kernel_rfl) (fun _ _ _ h => h) (Or.inl ⟨by rfl, ?_⟩) (by assumption) ?_
      rotate_left
      · intro w hSw; clear hSw; go_simp; try with_reducible rfl
      try simp only [Act.put, List.setIfInBounds_toArray, List.set_cons_zero, List.set_cons_succ]
      refine wpAnyH_take (i := 5) (oi := { dst := some 62, op := Go.Op.indexAddr 26 (Go.Operand.tmp 60) (Go.Operand.tmp 61), type := 0, pos := "ref.go:40", after := #[{ on := 3, ground := Go.Ground.data }, { on := 4, ground := Go.Ground.data }], guard := none }) (v := ?_) rfl (by kernel_rfl) (by kernel_rfl) (by kernel_rfl) (fun _ _ _ h => h) (Or.inl ⟨by rfl, ?_⟩) (by assumption) ?_
      rotate_left
      · intro w hSw; clear hSw; go_simp; try with_reducible rfl
      try simp only [Act.put, List.setIfInBounds_toArray, List.set_cons_zero, List.set_cons_succ]
      refine wpAnyH_take (i := 6) (oi := { dst := some 63, op := Go.Op.load 28 (Go.Operand.tmp 62), type := 28, pos := "ref.go:40", after := #[{ on := 5, ground := Go.Ground.data }], guard := none }) (v := ?_) rfl (by kernel_rfl) (by kernel_rfl) (by kernel_rfl) (fun _ _ _ h => h) (Or.inl ⟨by rfl, ?_⟩) (by assumption) ?_
      rotate_left
      · intro w7 hS7
        have z0 := hS7.cell_ hb0r.out hb0l.out d10
        have z1 := hS7.cell_ hb0r.out hb0l.out d11
        have z2 := hS7.cell_ hb0r.out hb0l.out d12
        have z3 := hS7.cell_ hb0r.out hb0l.out d13
        have z4 := hS7.cell_ hb0r.out hb0l.out d14
        have z5 := hS7.cell_ hb0r.out hb0l.out d15
        have z6 := hS7.cell_ hb0r.out hb0l.out d16
        have z7 := hS7.cell_ hb0r.out hb0l.out d17
        have z8 := hS7.cell_ hb0r.out hb0l.out d18
        clear hS7
        go_simp
        try with_reducible rfl
      try simp only [Act.put, List.setIfInBounds_toArray, List.set_cons_zero, List.set_cons_succ]
      refine wpAnyH_take (i := 7) (oi := { dst := some 64, op := Go.Op.move (Go.Operand.tmp 1), type := 90, pos := "ref.go:40", after := #[], guard := none }) (v := ?_) rfl (by kernel_rfl) (by kernel_rfl) (by kernel_rfl) (fun _ _ _ h => h) (Or.inl ⟨by rfl, ?_⟩) (by assumption) ?_
      rotate_left
      · intro w hSw; clear hSw; go_simp; try with_reducible rfl
      try simp only [Act.put, List.setIfInBounds_toArray, List.set_cons_zero, List.set_cons_succ]
      refine wpAnyH_ready (rs := [1, 8]) (by kernel_rfl) (by simp) ?_
      refine AllReadyH.cons (o := { dst := some 58, op := Go.Op.load 26 (Go.Operand.tmp 57), type := 26, pos := "ref.go:40", after := #[{ on := 0, ground := Go.Ground.data }], guard := none }) rfl (fun K hK => ?_) ?_
      · rw [if_pos (by rfl)]
        go_simp
        refine hK.out _ _ hHeld (fun hHeld => ?_)
        clear hK K
        try simp only [Act.put, List.setIfInBounds_toArray, List.set_cons_zero, List.set_cons_succ]
        refine wpAnyH_ready (rs := [8]) (by kernel_rfl) (by simp) ?_
        refine AllReadyH.cons (o := { dst := some 65, op := Go.Op.call { callee := Go.Callee.value (Go.Operand.func 31), args := #[Go.Operand.tmp 63, Go.Operand.tmp 64], argTypes := #[28, 90] }, type := 28, pos := "ref.go:40", after := #[{ on := 6, ground := Go.Ground.data }, { on := 7, ground := Go.Ground.data }], guard := none }) rfl (fun K hK => ?_) AllReadyH.nil
        rw [if_pos (by rfl)]
        go_simp
        refine hC.out.mono ?_
        rintro e w3 ⟨v1, v2, v3, rfl, hNw, hb3⟩
        obtain ⟨P6, m6, p6, rfl⟩ : ∃ A m c, v1 = .slice A m c := by obtain ⟨A, c, e⟩ := hNw.tmin.p.read; exact ⟨_, _, _, e⟩
        obtain ⟨I6, l6, q6, rfl⟩ : ∃ A m c, v2 = .slice A m c := by obtain ⟨A, c, e⟩ := hNw.tmin.d.read; exact ⟨_, _, _, e⟩
        obtain ⟨K6, n6, r6, rfl⟩ : ∃ A m c, v3 = .slice A m c := by obtain ⟨A, c, e⟩ := hNw.tmin.k.read; exact ⟨_, _, _, e⟩
        have hb3' := Lib.hid hb3
        have hNw' := Lib.hid hNw
        have e3 : w3.cell? ⟨bo, 8, none⟩ = some (.slice A8 m8 c8) := (Below.cell hb3 (p := ⟨bo, 8, none⟩) hltO.out).trans ydo
        have hk3 := Lib.hid (hHeld.then_ (Turns.of_below hb3 (fun _ => False)) (fun _ _ _ h => h))
        clear hb3 hNw hHeld
        refine hK.out _ _ hk3.out (fun hHeld => ?_)
        clear hK K
        try simp only [Act.put, List.setIfInBounds_toArray, List.set_cons_zero, List.set_cons_succ]
        refine wpAnyH_ready (rs := [9]) (by kernel_rfl) (by simp) ?_
        refine AllReadyH.cons (o := { dst := some 66, op := Go.Op.buildSlice 26 1 #[(0, Go.Operand.tmp 65)], type := 26, pos := "ref.go:40", after := #[{ on := 8, ground := Go.Ground.data }], guard := none }) rfl (fun K hK => ?_) AllReadyH.nil
        rw [if_pos (by rfl)]
        go_simp
        have e4 : (w3.alloc (.cells #[.int .i64 y.k, .int .i64 y.n, .string ⟨y.s.toArray⟩, .slice P6 m6 p6, .int .i64 y.d.k, .int .i64 y.d.n, .string ⟨y.d.s.toArray⟩, .slice I6 l6 q6, .slice K6 n6 r6] 28)).cell? ⟨bo, 8, none⟩ = some (.slice A8 m8 c8) := (Below.cell ((Below.refl _ w3).alloc (Nat.le_refl _) _) (p := ⟨bo, 8, none⟩) (Nat.lt_of_lt_of_le hltO.out hb3'.out.size)).trans e3
        refine hK.out _ _ (hHeld.alloc _) (fun hHeld => ?_)
        clear hK K
        try simp only [Act.put, List.setIfInBounds_toArray, List.set_cons_zero, List.set_cons_succ]
        refine wpAnyH_ready (rs := [10]) (by kernel_rfl) (by simp) ?_
        refine AllReadyH.cons (o := { dst := some 67, op := Go.Op.call { callee := Go.Callee.builtin Go.Builtin.append, args := #[Go.Operand.tmp 58, Go.Operand.tmp 66], argTypes := #[26, 26] }, type := 26, pos := "ref.go:40", after := #[{ on := 1, ground := Go.Ground.data }, { on := 9, ground := Go.Ground.data }, { on := 8, ground := Go.Ground.chain }], guard := none }) rfl (fun K hK => ?_) AllReadyH.nil
        rw [if_pos (by rfl)]
        refine wp_append_new (v8 := .slice A8 m8 c8) _ _ rfl rfl rfl hI'.out hb3'.out hw99.out hNw'.out (by rw [htl'.out]; have := hj'.out; omega) ?_
        intro v9 w11 hR9 hT9
        have hT11 := Lib.hid (((Turns.of_below hb3'.out (fun g => (Value.slice A8 m8 c8).ownBlock = some g)).alloc (.cells #[.int .i64 y.k, .int .i64 y.n, .string ⟨y.s.toArray⟩, .slice P6 m6 p6, .int .i64 y.d.k, .int .i64 y.d.n, .string ⟨y.d.s.toArray⟩, .slice I6 l6 q6, .slice K6 n6 r6] 28)).then hT9 (fun _ _ h => h))
        have hk11 := Lib.hid (hHeld.then_ hT9 (fun g hg hd hh => by have := hlo.out g hh; have := hMw.out; omega))
        have hBo11 := hBd.out.drew.turns hT11.out (fun hh => by have := hlo.out _ hh; have := hboM.out; omega)
        have eo := hBo11.cell 8
        have fo := hBo11.free 8
        have lo := hBo11.lt
        simp only [List.getElem?_cons_succ, List.getElem?_cons_zero] at eo
        obtain ⟨A9, c9, rfl⟩ := hR9.read
        have hR9' := Lib.hid hR9
        have hBo11' := Lib.hid hBo11
        clear hT9 hR9 hBo11 hHeld
        refine hK.out _ _ hk11.out (fun hHeld => ?_)
        clear hK K
        try simp only [Act.put, List.setIfInBounds_toArray, List.set_cons_zero, List.set_cons_succ]
        refine wpAnyH_take (i := 11) (oi := { dst := some 68, op := Go.Op.fieldAddr 28 (Go.Operand.tmp 5) 5, type := 0, pos := "ref.go:40", after := #[{ on := 0, ground := Go.Ground.phase }, { on := 1, ground := Go.Ground.phase }, { on := 2, ground := Go.Ground.phase }, { on := 3, ground := Go.Ground.phase }, { on := 4, ground := Go.Ground.phase }, { on := 5, ground := Go.Ground.phase }, { on := 6, ground := Go.Ground.phase }, { on := 7, ground := Go.Ground.phase }, { on := 8, ground := Go.Ground.phase }, { on := 9, ground := Go.Ground.phase }, { on := 10, ground := Go.Ground.phase }], guard := none }) (v := ?_) rfl (by kernel_rfl) (by kernel_rfl) (by kernel_rfl) (fun _ _ _ h => h) (Or.inl ⟨by rfl, ?_⟩) (by assumption) ?_
        rotate_left
        · intro w hSw; clear hSw; go_simp; try with_reducible rfl
        try simp only [Act.put, List.setIfInBounds_toArray, List.set_cons_zero, List.set_cons_succ]
        refine wpAnyH_ready (rs := [12]) (by kernel_rfl) (by simp) ?_
        refine AllReadyH.cons (o := { dst := none, op := Go.Op.store 26 (Go.Operand.tmp 68) (Go.Operand.tmp 67), type := 0, pos := "ref.go:40", after := #[{ on := 11, ground := Go.Ground.data }, { on := 10, ground := Go.Ground.data }, { on := 10, ground := Go.Ground.chain }, { on := 0, ground := Go.Ground.phase }, { on := 1, ground := Go.Ground.phase }, { on := 2, ground := Go.Ground.phase }, { on := 3, ground := Go.Ground.phase }, { on := 4, ground := Go.Ground.phase }, { on := 5, ground := Go.Ground.phase }, { on := 6, ground := Go.Ground.phase }, { on := 7, ground := Go.Ground.phase }, { on := 8, ground := Go.Ground.phase }, { on := 9, ground := Go.Ground.phase }, { on := 10, ground := Go.Ground.phase }], guard := none }) rfl (fun K hK => ?_) AllReadyH.nil
        rw [if_pos (by rfl)]
        go_simp
        have hTs := (Turns.refl (fun g => g = bo) w11).setCell (p := ⟨bo, 8, none⟩) (fun _ => rfl) (.slice A9 (outj.snoc y).len c9)
        have hk12 := Lib.hid (hHeld.then_ hTs (fun g hg hd e => by have := hbo2.out; have hd' : g ≤ w.heap.size := hd; omega))
        have hR12 := Lib.hid (hR9'.out.turns hTs (fun g hg hB => by have := hboM.out; have hg' : g = bo := hg; omega))
        have hO12 := Lib.hid (hBo11'.out.stored 8 (.slice A9 (outj.snoc y).len c9))
        have hTT := Lib.hid (((Turns.refl (fun _ => False) wr).drew.mono (Y := fun g => (Value.slice A8 m8 c8).ownBlock = some g ∨ g = bo) (fun _ _ h => h.elim)).then (hT11.out.mono (Y := fun g => (Value.slice A8 m8 c8).ownBlock = some g ∨ g = bo) (fun _ _ h => .inl h)) (fun _ _ h => h) |>.then (hTs.mono (Y := fun g => (Value.slice A8 m8 c8).ownBlock = some g ∨ g = bo) (fun _ _ h => .inr h)) (fun _ _ h => h))
        clear hTs hHeld
        refine hK.out _ _ hk12.out (fun hHeld => ?_)
        clear hK K
        try simp only [Act.put, List.setIfInBounds_toArray, List.set_cons_zero, List.set_cons_succ]
        refine wpAnyH_done (by kernel_rfl) ?_ _
        clear hHeld
        go_wp2_with fail
        go_roundw
        case rel =>
          have b1 := hMw.out
          have b2 := hbo2.out
          have b3 := hboM.out
          have hx : ∀ g, ((Value.slice A8 m8 c8).ownBlock = some g ∨ g = bo) → W8.heap.size ≤ g ∨ g = bo := fun g hg => hg.elim (fun h => .inl (hlo.out g h).1) .inr
          refine ⟨m8 + 1, A9, _, c9, by omega, by go_num, Lib.hid (by rw [hsn'.out]; exact hR12.out), Lib.hid ⟨hK3.out.1.turns hTT.out (fun hh => ?_), hK3.out.2.1.turns hTT.out (fun hh => ?_), hK3.out.2.2.1.turns hTT.out (fun g hg hh => ?_), hK3.out.2.2.2.1.agr (Agr.of_turns hTT.out (fun g _ hd hh => ?_)), hK3.out.2.2.2.2.1.turns hTT.out (fun g _ hd hh => ?_), hK3.out.2.2.2.2.2.trans (hTT.out.below (hK3.out.2.2.2.2.2).size (fun g hh => ?_))⟩, hO12, Nat.le_trans hw9r.out hTT.out.size⟩
          · have := hx _ hh; omega
          · have := hx _ hh; omega
          · have := hx _ hh; have h1 := hqb.out g hg; have h2 := (hpM.out g hg).2; omega
          · have := hx _ hh; have h1 := hD5.out g hd; omega
          · have := hx _ hh; have h1 : g < W8.heap.size ∧ g ≠ bo := hd; omega
          · have := hx _ hh; omega
        case measure => simp [intOf]; omega
      refine AllReadyH.cons (o := { dst := some 65, op := Go.Op.call { callee := Go.Callee.value (Go.Operand.func 31), args := #[Go.Operand.tmp 63, Go.Operand.tmp 64], argTypes := #[28, 90] }, type := 28, pos := "ref.go:40", after := #[{ on := 6, ground := Go.Ground.data }, { on := 7, ground := Go.Ground.data }], guard := none }) rfl (fun K hK => ?_) AllReadyH.nil
      · rw [if_pos (by rfl)]
        go_simp
        refine hC.out.mono ?_
        rintro e w3 ⟨v1, v2, v3, rfl, hNw, hb3⟩
        obtain ⟨P6, m6, p6, rfl⟩ : ∃ A m c, v1 = .slice A m c := by obtain ⟨A, c, e⟩ := hNw.tmin.p.read; exact ⟨_, _, _, e⟩
        obtain ⟨I6, l6, q6, rfl⟩ : ∃ A m c, v2 = .slice A m c := by obtain ⟨A, c, e⟩ := hNw.tmin.d.read; exact ⟨_, _, _, e⟩
        obtain ⟨K6, n6, r6, rfl⟩ : ∃ A m c, v3 = .slice A m c := by obtain ⟨A, c, e⟩ := hNw.tmin.k.read; exact ⟨_, _, _, e⟩
        have hb3' := Lib.hid hb3
        have hNw' := Lib.hid hNw
        have e3 : w3.cell? ⟨bo, 8, none⟩ = some (.slice A8 m8 c8) := (Below.cell hb3 (p := ⟨bo, 8, none⟩) hltO.out).trans ydo
        have hk3 := Lib.hid (hHeld.then_ (Turns.of_below hb3 (fun _ => False)) (fun _ _ _ h => h))
        clear hb3 hNw hHeld
        refine hK.out _ _ hk3.out (fun hHeld => ?_)
        clear hK K
        try simp only [Act.put, List.setIfInBounds_toArray, List.set_cons_zero, List.set_cons_succ]
        refine wpAnyH_ready (rs := [1, 9]) (by kernel_rfl) (by simp) ?_
        refine AllReadyH.cons (o := { dst := some 58, op := Go.Op.load 26 (Go.Operand.tmp 57), type := 26, pos := "ref.go:40", after := #[{ on := 0, ground := Go.Ground.data }], guard := none }) rfl (fun K hK => ?_) ?_
        · rw [if_pos (by rfl)]
          go_simp
          refine hK.out _ _ hHeld (fun hHeld => ?_)
          clear hK K
          try simp only [Act.put, List.setIfInBounds_toArray, List.set_cons_zero, List.set_cons_succ]
          refine wpAnyH_ready (rs := [9]) (by kernel_rfl) (by simp) ?_
          refine AllReadyH.cons (o := { dst := some 66, op := Go.Op.buildSlice 26 1 #[(0, Go.Operand.tmp 65)], type := 26, pos := "ref.go:40", after := #[{ on := 8, ground := Go.Ground.data }], guard := none }) rfl (fun K hK => ?_) AllReadyH.nil
          rw [if_pos (by rfl)]
          go_simp
          have e4 : (w3.alloc (.cells #[.int .i64 y.k, .int .i64 y.n, .string ⟨y.s.toArray⟩, .slice P6 m6 p6, .int .i64 y.d.k, .int .i64 y.d.n, .string ⟨y.d.s.toArray⟩, .slice I6 l6 q6, .slice K6 n6 r6] 28)).cell? ⟨bo, 8, none⟩ = some (.slice A8 m8 c8) := (Below.cell ((Below.refl _ w3).alloc (Nat.le_refl _) _) (p := ⟨bo, 8, none⟩) (Nat.lt_of_lt_of_le hltO.out hb3'.out.size)).trans e3
          refine hK.out _ _ (hHeld.alloc _) (fun hHeld => ?_)
          clear hK K
          try simp only [Act.put, List.setIfInBounds_toArray, List.set_cons_zero, List.set_cons_succ]
          refine wpAnyH_ready (rs := [10]) (by kernel_rfl) (by simp) ?_
          refine AllReadyH.cons (o := { dst := some 67, op := Go.Op.call { callee := Go.Callee.builtin Go.Builtin.append, args := #[Go.Operand.tmp 58, Go.Operand.tmp 66], argTypes := #[26, 26] }, type := 26, pos := "ref.go:40", after := #[{ on := 1, ground := Go.Ground.data }, { on := 9, ground := Go.Ground.data }, { on := 8, ground := Go.Ground.chain }], guard := none }) rfl (fun K hK => ?_) AllReadyH.nil
          rw [if_pos (by rfl)]
          refine wp_append_new (v8 := .slice A8 m8 c8) _ _ rfl rfl rfl hI'.out hb3'.out hw99.out hNw'.out (by rw [htl'.out]; have := hj'.out; omega) ?_
          intro v9 w11 hR9 hT9
          have hT11 := Lib.hid (((Turns.of_below hb3'.out (fun g => (Value.slice A8 m8 c8).ownBlock = some g)).alloc (.cells #[.int .i64 y.k, .int .i64 y.n, .string ⟨y.s.toArray⟩, .slice P6 m6 p6, .int .i64 y.d.k, .int .i64 y.d.n, .string ⟨y.d.s.toArray⟩, .slice I6 l6 q6, .slice K6 n6 r6] 28)).then hT9 (fun _ _ h => h))
          have hk11 := Lib.hid (hHeld.then_ hT9 (fun g hg hd hh => by have := hlo.out g hh; have := hMw.out; omega))
          have hBo11 := hBd.out.drew.turns hT11.out (fun hh => by have := hlo.out _ hh; have := hboM.out; omega)
          have eo := hBo11.cell 8
          have fo := hBo11.free 8
          have lo := hBo11.lt
          simp only [List.getElem?_cons_succ, List.getElem?_cons_zero] at eo
          obtain ⟨A9, c9, rfl⟩ := hR9.read
          have hR9' := Lib.hid hR9
          have hBo11' := Lib.hid hBo11
          clear hT9 hR9 hBo11 hHeld
          refine hK.out _ _ hk11.out (fun hHeld => ?_)
          clear hK K
          try simp only [Act.put, List.setIfInBounds_toArray, List.set_cons_zero, List.set_cons_succ]
          refine wpAnyH_take (i := 11) (oi := { dst := some 68, op := Go.Op.fieldAddr 28 (Go.Operand.tmp 5) 5, type := 0, pos := "ref.go:40", after := #[{ on := 0, ground := Go.Ground.phase }, { on := 1, ground := Go.Ground.phase }, { on := 2, ground := Go.Ground.phase }, { on := 3, ground := Go.Ground.phase }, { on := 4, ground := Go.Ground.phase }, { on := 5, ground := Go.Ground.phase }, { on := 6, ground := Go.Ground.phase }, { on := 7, ground := Go.Ground.phase }, { on := 8, ground := Go.Ground.phase }, { on := 9, ground := Go.Ground.phase }, { on := 10, ground := Go.Ground.phase }], guard := none }) (v := ?_) rfl (by kernel_rfl) (by kernel_rfl) (by kernel_rfl) (fun _ _ _ h => h) (Or.inl ⟨by rfl, ?_⟩) (by assumption) ?_
          rotate_left
          · intro w hSw; clear hSw; go_simp; try with_reducible rfl
          try simp only [Act.put, List.setIfInBounds_toArray, List.set_cons_zero, List.set_cons_succ]
          refine wpAnyH_ready (rs := [12]) (by kernel_rfl) (by simp) ?_
          refine AllReadyH.cons (o := { dst := none, op := Go.Op.store 26 (Go.Operand.tmp 68) (Go.Operand.tmp 67), type := 0, pos := "ref.go:40", after := #[{ on := 11, ground := Go.Ground.data }, { on := 10, ground := Go.Ground.data }, { on := 10, ground := Go.Ground.chain }, { on := 0, ground := Go.Ground.phase }, { on := 1, ground := Go.Ground.phase }, { on := 2, ground := Go.Ground.phase }, { on := 3, ground := Go.Ground.phase }, { on := 4, ground := Go.Ground.phase }, { on := 5, ground := Go.Ground.phase }, { on := 6, ground := Go.Ground.phase }, { on := 7, ground := Go.Ground.phase }, { on := 8, ground := Go.Ground.phase }, { on := 9, ground := Go.Ground.phase }, { on := 10, ground := Go.Ground.phase }], guard := none }) rfl (fun K hK => ?_) AllReadyH.nil
          rw [if_pos (by rfl)]
          go_simp
          have hTs := (Turns.refl (fun g => g = bo) w11).setCell (p := ⟨bo, 8, none⟩) (fun _ => rfl) (.slice A9 (outj.snoc y).len c9)
          have hk12 := Lib.hid (hHeld.then_ hTs (fun g hg hd e => by have := hbo2.out; have hd' : g ≤ w.heap.size := hd; omega))
          have hR12 := Lib.hid (hR9'.out.turns hTs (fun g hg hB => by have := hboM.out; have hg' : g = bo := hg; omega))
          have hO12 := Lib.hid (hBo11'.out.stored 8 (.slice A9 (outj.snoc y).len c9))
          have hTT := Lib.hid (((Turns.refl (fun _ => False) wr).drew.mono (Y := fun g => (Value.slice A8 m8 c8).ownBlock = some g ∨ g = bo) (fun _ _ h => h.elim)).then (hT11.out.mono (Y := fun g => (Value.slice A8 m8 c8).ownBlock = some g ∨ g = bo) (fun _ _ h => .inl h)) (fun _ _ h => h) |>.then (hTs.mono (Y := fun g => (Value.slice A8 m8 c8).ownBlock = some g ∨ g = bo) (fun _ _ h => .inr h)) (fun _ _ h => h))
          clear hTs hHeld
          refine hK.out _ _ hk12.out (fun hHeld => ?_)
          clear hK K
          try simp only [Act.put, List.setIfInBounds_toArray, List.set_cons_zero, List.set_cons_succ]
          refine wpAnyH_done (by kernel_rfl) ?_ _
          clear hHeld
          go_wp2_with fail
          go_roundw
          case rel =>
            have b1 := hMw.out
            have b2 := hbo2.out
            have b3 := hboM.out
            have hx : ∀ g, ((Value.slice A8 m8 c8).ownBlock = some g ∨ g = bo) → W8.heap.size ≤ g ∨ g = bo := fun g hg => hg.elim (fun h => .inl (hlo.out g h).1) .inr
            refine ⟨m8 + 1, A9, _, c9, by omega, by go_num, Lib.hid (by rw [hsn'.out]; exact hR12.out), Lib.hid ⟨hK3.out.1.turns hTT.out (fun hh => ?_), hK3.out.2.1.turns hTT.out (fun hh => ?_), hK3.out.2.2.1.turns hTT.out (fun g hg hh => ?_), hK3.out.2.2.2.1.agr (Agr.of_turns hTT.out (fun g _ hd hh => ?_)), hK3.out.2.2.2.2.1.turns hTT.out (fun g _ hd hh => ?_), hK3.out.2.2.2.2.2.trans (hTT.out.below (hK3.out.2.2.2.2.2).size (fun g hh => ?_))⟩, hO12, Nat.le_trans hw9r.out hTT.out.size⟩
            · have := hx _ hh; omega
            · have := hx _ hh; omega
            · have := hx _ hh; have h1 := hqb.out g hg; have h2 := (hpM.out g hg).2; omega
            · have := hx _ hh; have h1 := hD5.out g hd; omega
            · have := hx _ hh; have h1 : g < W8.heap.size ∧ g ≠ bo := hd; omega
            · have := hx _ hh; omega
          case measure => simp [intOf]; omega
        refine AllReadyH.cons (o := { dst := some 66, op := Go.Op.buildSlice 26 1 #[(0, Go.Operand.tmp 65)], type := 26, pos := "ref.go:40", after := #[{ on := 8, ground := Go.Ground.data }], guard := none }) rfl (fun K hK => ?_) AllReadyH.nil
        · rw [if_pos (by rfl)]
          go_simp
          have e4 : (w3.alloc (.cells #[.int .i64 y.k, .int .i64 y.n, .string ⟨y.s.toArray⟩, .slice P6 m6 p6, .int .i64 y.d.k, .int .i64 y.d.n, .string ⟨y.d.s.toArray⟩, .slice I6 l6 q6, .slice K6 n6 r6] 28)).cell? ⟨bo, 8, none⟩ = some (.slice A8 m8 c8) := (Below.cell ((Below.refl _ w3).alloc (Nat.le_refl _) _) (p := ⟨bo, 8, none⟩) (Nat.lt_of_lt_of_le hltO.out hb3'.out.size)).trans e3
          refine hK.out _ _ (hHeld.alloc _) (fun hHeld => ?_)
          clear hK K
          try simp only [Act.put, List.setIfInBounds_toArray, List.set_cons_zero, List.set_cons_succ]
          refine wpAnyH_ready (rs := [1]) (by kernel_rfl) (by simp) ?_
          refine AllReadyH.cons (o := { dst := some 58, op := Go.Op.load 26 (Go.Operand.tmp 57), type := 26, pos := "ref.go:40", after := #[{ on := 0, ground := Go.Ground.data }], guard := none }) rfl (fun K hK => ?_) AllReadyH.nil
          rw [if_pos (by rfl)]
          go_simp
          refine hK.out _ _ hHeld (fun hHeld => ?_)
          clear hK K
          try simp only [Act.put, List.setIfInBounds_toArray, List.set_cons_zero, List.set_cons_succ]
          refine wpAnyH_ready (rs := [10]) (by kernel_rfl) (by simp) ?_
          refine AllReadyH.cons (o := { dst := some 67, op := Go.Op.call { callee := Go.Callee.builtin Go.Builtin.append, args := #[Go.Operand.tmp 58, Go.Operand.tmp 66], argTypes := #[26, 26] }, type := 26, pos := "ref.go:40", after := #[{ on := 1, ground := Go.Ground.data }, { on := 9, ground := Go.Ground.data }, { on := 8, ground := Go.Ground.chain }], guard := none }) rfl (fun K hK => ?_) AllReadyH.nil
          rw [if_pos (by rfl)]
          refine wp_append_new (v8 := .slice A8 m8 c8) _ _ rfl rfl rfl hI'.out hb3'.out hw99.out hNw'.out (by rw [htl'.out]; have := hj'.out; omega) ?_
          intro v9 w11 hR9 hT9
          have hT11 := Lib.hid (((Turns.of_below hb3'.out (fun g => (Value.slice A8 m8 c8).ownBlock = some g)).alloc (.cells #[.int .i64 y.k, .int .i64 y.n, .string ⟨y.s.toArray⟩, .slice P6 m6 p6, .int .i64 y.d.k, .int .i64 y.d.n, .string ⟨y.d.s.toArray⟩, .slice I6 l6 q6, .slice K6 n6 r6] 28)).then hT9 (fun _ _ h => h))
          have hk11 := Lib.hid (hHeld.then_ hT9 (fun g hg hd hh => by have := hlo.out g hh; have := hMw.out; omega))
          have hBo11 := hBd.out.drew.turns hT11.out (fun hh => by have := hlo.out _ hh; have := hboM.out; omega)
          have eo := hBo11.cell 8
          have fo := hBo11.free 8
          have lo := hBo11.lt
          simp only [List.getElem?_cons_succ, List.getElem?_cons_zero] at eo
          obtain ⟨A9, c9, rfl⟩ := hR9.read
          have hR9' := Lib.hid hR9
          have hBo11' := Lib.hid hBo11
          clear hT9 hR9 hBo11 hHeld
          refine hK.out _ _ hk11.out (fun hHeld => ?_)
          clear hK K
          try simp only [Act.put, List.setIfInBounds_toArray, List.set_cons_zero, List.set_cons_succ]
          refine wpAnyH_take (i := 11) (oi := { dst := some 68, op := Go.Op.fieldAddr 28 (Go.Operand.tmp 5) 5, type := 0, pos := "ref.go:40", after := #[{ on := 0, ground := Go.Ground.phase }, { on := 1, ground := Go.Ground.phase }, { on := 2, ground := Go.Ground.phase }, { on := 3, ground := Go.Ground.phase }, { on := 4, ground := Go.Ground.phase }, { on := 5, ground := Go.Ground.phase }, { on := 6, ground := Go.Ground.phase }, { on := 7, ground := Go.Ground.phase }, { on := 8, ground := Go.Ground.phase }, { on := 9, ground := Go.Ground.phase }, { on := 10, ground := Go.Ground.phase }], guard := none }) (v := ?_) rfl (by kernel_rfl) (by kernel_rfl) (by kernel_rfl) (fun _ _ _ h => h) (Or.inl ⟨by rfl, ?_⟩) (by assumption) ?_
          rotate_left
          · intro w hSw; clear hSw; go_simp; try with_reducible rfl
          try simp only [Act.put, List.setIfInBounds_toArray, List.set_cons_zero, List.set_cons_succ]
          refine wpAnyH_ready (rs := [12]) (by kernel_rfl) (by simp) ?_
          refine AllReadyH.cons (o := { dst := none, op := Go.Op.store 26 (Go.Operand.tmp 68) (Go.Operand.tmp 67), type := 0, pos := "ref.go:40", after := #[{ on := 11, ground := Go.Ground.data }, { on := 10, ground := Go.Ground.data }, { on := 10, ground := Go.Ground.chain }, { on := 0, ground := Go.Ground.phase }, { on := 1, ground := Go.Ground.phase }, { on := 2, ground := Go.Ground.phase }, { on := 3, ground := Go.Ground.phase }, { on := 4, ground := Go.Ground.phase }, { on := 5, ground := Go.Ground.phase }, { on := 6, ground := Go.Ground.phase }, { on := 7, ground := Go.Ground.phase }, { on := 8, ground := Go.Ground.phase }, { on := 9, ground := Go.Ground.phase }, { on := 10, ground := Go.Ground.phase }], guard := none }) rfl (fun K hK => ?_) AllReadyH.nil
          rw [if_pos (by rfl)]
          go_simp
          have hTs := (Turns.refl (fun g => g = bo) w11).setCell (p := ⟨bo, 8, none⟩) (fun _ => rfl) (.slice A9 (outj.snoc y).len c9)
          have hk12 := Lib.hid (hHeld.then_ hTs (fun g hg hd e => by have := hbo2.out; have hd' : g ≤ w.heap.size := hd; omega))
          have hR12 := Lib.hid (hR9'.out.turns hTs (fun g hg hB => by have := hboM.out; have hg' : g = bo := hg; omega))
          have hO12 := Lib.hid (hBo11'.out.stored 8 (.slice A9 (outj.snoc y).len c9))
          have hTT := Lib.hid (((Turns.refl (fun _ => False) wr).drew.mono (Y := fun g => (Value.slice A8 m8 c8).ownBlock = some g ∨ g = bo) (fun _ _ h => h.elim)).then (hT11.out.mono (Y := fun g => (Value.slice A8 m8 c8).ownBlock = some g ∨ g = bo) (fun _ _ h => .inl h)) (fun _ _ h => h) |>.then (hTs.mono (Y := fun g => (Value.slice A8 m8 c8).ownBlock = some g ∨ g = bo) (fun _ _ h => .inr h)) (fun _ _ h => h))
          clear hTs hHeld
          refine hK.out _ _ hk12.out (fun hHeld => ?_)
          clear hK K
          try simp only [Act.put, List.setIfInBounds_toArray, List.set_cons_zero, List.set_cons_succ]
          refine wpAnyH_done (by kernel_rfl) ?_ _
          clear hHeld
          go_wp2_with fail
          go_roundw
          case rel =>
            have b1 := hMw.out
            have b2 := hbo2.out
            have b3 := hboM.out
            have hx : ∀ g, ((Value.slice A8 m8 c8).ownBlock = some g ∨ g = bo) → W8.heap.size ≤ g ∨ g = bo := fun g hg => hg.elim (fun h => .inl (hlo.out g h).1) .inr
            refine ⟨m8 + 1, A9, _, c9, by omega, by go_num, Lib.hid (by rw [hsn'.out]; exact hR12.out), Lib.hid ⟨hK3.out.1.turns hTT.out (fun hh => ?_), hK3.out.2.1.turns hTT.out (fun hh => ?_), hK3.out.2.2.1.turns hTT.out (fun g hg hh => ?_), hK3.out.2.2.2.1.agr (Agr.of_turns hTT.out (fun g _ hd hh => ?_)), hK3.out.2.2.2.2.1.turns hTT.out (fun g _ hd hh => ?_), hK3.out.2.2.2.2.2.trans (hTT.out.below (hK3.out.2.2.2.2.2).size (fun g hh => ?_))⟩, hO12, Nat.le_trans hw9r.out hTT.out.size⟩
            · have := hx _ hh; omega
            · have := hx _ hh; omega
            · have := hx _ hh; have h1 := hqb.out g hg; have h2 := (hpM.out g hg).2; omega
            · have := hx _ hh; have h1 := hD5.out g hd; omega
            · have := hx _ hh; have h1 : g < W8.heap.size ∧ g ≠ bo := hd; omega
            · have := hx _ hh; omega
          case measure => simp [intOf]; omega
    · obtain rfl : m8 = N := by omega
      have hall : (SC.rsl R2 ks).tk m8 = SC.rsl R2 ks := by rw [← hN'.out, ← SC.rsl_len R2 ks]; exact Tl.tk_all _
      rw [hall] at hI
      have qc0 := hBd.out.cell 0
      have qc1 := hBd.out.cell 1
      have qc2 := hBd.out.cell 2
      have qc3 := hBd.out.cell 3
      have qc4 := hBd.out.cell 4
      have qc5 := hBd.out.cell 5
      have qc6 := hBd.out.cell 6
      have qc7 := hBd.out.cell 7
      have qc8 := hBd.out.cell 8
      have cz0 := hK3.out.2.1.cell 0
      have fz0 := hK3.out.2.1.free 0
      have cz1 := hK3.out.2.1.cell 1
      have fz1 := hK3.out.2.1.free 1
      have cz2 := hK3.out.2.1.cell 2
      have fz2 := hK3.out.2.1.free 2
      have cz3 := hK3.out.2.1.cell 3
      have fz3 := hK3.out.2.1.free 3
      have cz4 := hK3.out.2.1.cell 4
      have fz4 := hK3.out.2.1.free 4
      have cz5 := hK3.out.2.1.cell 5
      have fz5 := hK3.out.2.1.free 5
      have cz6 := hK3.out.2.1.cell 6
      have fz6 := hK3.out.2.1.free 6
      have cz7 := hK3.out.2.1.cell 7
      have fz7 := hK3.out.2.1.free 7
      have cz8 := hK3.out.2.1.cell 8
      have fz8 := hK3.out.2.1.free 8
      have hltz := hK3.out.2.1.lt
      simp only [List.getElem?_cons_succ, List.getElem?_cons_zero] at qc0 qc1 qc2 qc3 qc4 qc5 qc6 qc7 qc8 cz0 cz1 cz2 cz3 cz4 cz5 cz6 cz7 cz8
      clear hall htl
      go_wp2_with fail
      have Tz := nine_turns (Turns.refl (fun g => g = w.heap.size + 1) wr) (g := w.heap.size + 1) (fun _ => rfl) 0 (.int .i64 k) (.int .i64 nn) (.string ⟨s.toArray⟩) (.slice P6 m6 p6) (.int .i64 d.k) (.int .i64 d.n) (.string ⟨d.s.toArray⟩) (.slice I5 L5 q5) (.slice A8 m8 c8)
      have hMz := nine_res hK3.out.2.1 (w.heap.size + 1) rfl (.int .i64 k) (.int .i64 nn) (.string ⟨s.toArray⟩) (.slice P6 m6 p6) (.int .i64 d.k) (.int .i64 d.n) (.string ⟨d.s.toArray⟩) (.slice I5 L5 q5) (.slice A8 m8 c8)
      have rz0 := hMz.cell 0
      have rz1 := hMz.cell 1
      have rz2 := hMz.cell 2
      have rz3 := hMz.cell 3
      have rz4 := hMz.cell 4
      have rz5 := hMz.cell 5
      have rz6 := hMz.cell 6
      have rz7 := hMz.cell 7
      have rz8 := hMz.cell 8
      unfold nine at rz0 rz1 rz2 rz3 rz4 rz5 rz6 rz7 rz8
      simp only [List.getElem?_cons_succ, List.getElem?_cons_zero, Nat.zero_add] at rz0 rz1 rz2 rz3 rz4 rz5 rz6 rz7 rz8
      have b1 := hMw.out
      have b2 := hbo2.out
      have b3 := hboM.out
      refine bodyPost_ret (v := .agg #[.int .i64 k, .int .i64 nn, .string ⟨s.toArray⟩, .slice P6 m6 p6, .int .i64 d.k, .int .i64 d.n, .string ⟨d.s.toArray⟩, .slice I5 L5 q5, .slice A8 m8 c8]) (by simp [results, Tryz.results31, go_sem, rz0, rz1, rz2, rz3, rz4, rz5, rz6, rz7, rz8]) rfl ⟨.slice P6 m6 p6, .slice I5 L5 q5, .slice A8 m8 c8, rfl, ?_, ?_⟩
      · refine NewT.of2 (M := W8.heap.size) (D0 := D5) (hK3.out.2.2.1.turns Tz (fun g hg hh => ?_)) (fun g hg => ?_) (by omega) hw9 hI.out Tz (fun g hg => ?_) (hK3.out.2.2.2.1.agr (Agr.of_turns Tz (fun g _ hd hh => ?_))) (fun g hg => ?_)
        · have e9 : g = w.heap.size + 1 := hh
          have := (hqb.out g hg).1
          omega
        · have h1 := hqb.out g hg
          have h2 := (hpM.out g hg).2
          exact ⟨by omega, h1.2⟩
        · have e9 : g = w.heap.size + 1 := hg
          omega
        · have e9 : g = w.heap.size + 1 := hh
          have := hD5.out g hd
          omega
        · have := hD5.out g hg
          omega
      · exact hK3.out.2.2.2.2.2.trans (Tz.below hK3.out.2.2.2.2.2.size (fun g hg => by have e9 : g = w.heap.size + 1 := hg; omega))
theorem resolved_any (t : Tm) : RdOk t := Tl.all_one RdOk rd_step t
set_option maxRecDepth 100000 in
set_option maxHeartbeats 4000000 in
theorem rresolve_any (t : Tm) (w : World) (vp vi vk : Value) (h : TmIn w t vp vi vk) (hsd : TM.sd1 t = true) (hsz : TM.sz t.ks ≤ 5000) (hhi : TM.hi t.ks ≤ 900) :
    Calls Tryz.prog 13 #[tmv t vp vi vk] w fun e w' => ∃ vp' vi' vk', e = .returned (tmv (SC.res t) vp' vi' vk') ∧ NewT w.heap.size w' (SC.res t) vp' vi' vk' ∧ Went w w' := by
  have hC := Lib.hid (fun (w' : World) (hb : Below w.heap.size w w') => resolved_any t w' (.slice none 0 0) [] vp vi vk (h.below hb) (RIn.nil w') hsd hsz (by simp; omega))
  rw [show ([] : List (List Int)).reverse = [] from rfl] at hC
  unfold SC.res
  generalize SC.rs1 [] t = y at hC ⊢
  obtain ⟨P3, p3, rfl⟩ := h.p.read
  obtain ⟨I7, q7, rfl⟩ := h.d.read
  obtain ⟨A1, c1, rfl⟩ := h.k.read
  unfold tmv at hC ⊢
  clear h
  have hL := (Lies.made w 28 #[.int .i64 t.k, .int .i64 t.n, .string ⟨t.s.toArray⟩, .slice P3 t.ps.length p3, .int .i64 t.d.k, .int .i64 t.d.n, .string ⟨t.d.s.toArray⟩, .slice I7 t.d.is.len q7, .slice A1 t.ks.len c1]).alloc (.cells #[.int .i64 0, .int .i64 0, .string ⟨#[]⟩, .slice none 0 0, .int .i64 0, .int .i64 0, .string ⟨#[]⟩, .slice none 0 0, .slice none 0 0] 28)
  have hz1 : (w.alloc (.cells #[.int .i64 t.k, .int .i64 t.n, .string ⟨t.s.toArray⟩, .slice P3 t.ps.length p3, .int .i64 t.d.k, .int .i64 t.d.n, .string ⟨t.d.s.toArray⟩, .slice I7 t.d.is.len q7, .slice A1 t.ks.len c1] 28)).heap.size = w.heap.size + 1 := by simp
  have hLr := Lies.made (w.alloc (.cells #[.int .i64 t.k, .int .i64 t.n, .string ⟨t.s.toArray⟩, .slice P3 t.ps.length p3, .int .i64 t.d.k, .int .i64 t.d.n, .string ⟨t.d.s.toArray⟩, .slice I7 t.d.is.len q7, .slice A1 t.ks.len c1] 28)) 28 #[.int .i64 0, .int .i64 0, .string ⟨#[]⟩, .slice none 0 0, .int .i64 0, .int .i64 0, .string ⟨#[]⟩, .slice none 0 0, .slice none 0 0]
  rw [hz1] at hLr
  have hba : Below w.heap.size w ((w.alloc (.cells #[.int .i64 t.k, .int .i64 t.n, .string ⟨t.s.toArray⟩, .slice P3 t.ps.length p3, .int .i64 t.d.k, .int .i64 t.d.n, .string ⟨t.d.s.toArray⟩, .slice I7 t.d.is.len q7, .slice A1 t.ks.len c1] 28)).alloc (.cells #[.int .i64 0, .int .i64 0, .string ⟨#[]⟩, .slice none 0 0, .int .i64 0, .int .i64 0, .string ⟨#[]⟩, .slice none 0 0, .slice none 0 0] 28)) := ((Below.refl _ w).alloc (Nat.le_refl _) _).alloc (by simp) _
  have hZ2 : ((w.alloc (.cells #[.int .i64 t.k, .int .i64 t.n, .string ⟨t.s.toArray⟩, .slice P3 t.ps.length p3, .int .i64 t.d.k, .int .i64 t.d.n, .string ⟨t.d.s.toArray⟩, .slice I7 t.d.is.len q7, .slice A1 t.ks.len c1] 28)).alloc (.cells #[.int .i64 0, .int .i64 0, .string ⟨#[]⟩, .slice none 0 0, .int .i64 0, .int .i64 0, .string ⟨#[]⟩, .slice none 0 0, .slice none 0 0] 28)).heap.size = w.heap.size + 2 := by simp
  obtain ⟨W2, hW2⟩ : ∃ W2, ((w.alloc (.cells #[.int .i64 t.k, .int .i64 t.n, .string ⟨t.s.toArray⟩, .slice P3 t.ps.length p3, .int .i64 t.d.k, .int .i64 t.d.n, .string ⟨t.d.s.toArray⟩, .slice I7 t.d.is.len q7, .slice A1 t.ks.len c1] 28)).alloc (.cells #[.int .i64 0, .int .i64 0, .string ⟨#[]⟩, .slice none 0 0, .int .i64 0, .int .i64 0, .string ⟨#[]⟩, .slice none 0 0, .slice none 0 0] 28)) = W2 := ⟨_, rfl⟩
  rw [hW2] at hL hLr hba hZ2
  have x0 := hL.cell 0
  have x1 := hL.cell 1
  have x2 := hL.cell 2
  have x3 := hL.cell 3
  have x4 := hL.cell 4
  have x5 := hL.cell 5
  have x6 := hL.cell 6
  have x7 := hL.cell 7
  have x8 := hL.cell 8
  simp only [List.getElem?_cons_succ, List.getElem?_cons_zero] at x0 x1 x2 x3 x4 x5 x6 x7 x8
  have hLrQ := Lib.hid hLr
  have hbaQ := Lib.hid hba
  have hZQ := Lib.hid hZ2
  clear hz1 hL hLr hba hZ2
  go_enter Tryz.func13, Tryz.ntmps13
  go_wp2_with (
    go_at_call 31
    refine (hC.out _ hbaQ.out).mono ?_
    rintro e w5 ⟨vp5, vi5, vk5, rfl, hNw, hb5⟩
    obtain ⟨P6, m6, p6, rfl⟩ : ∃ A m c, vp5 = .slice A m c := by obtain ⟨A, c, e⟩ := hNw.tmin.p.read; exact ⟨_, _, _, e⟩
    obtain ⟨I6, l6, q6, rfl⟩ : ∃ A m c, vi5 = .slice A m c := by obtain ⟨A, c, e⟩ := hNw.tmin.d.read; exact ⟨_, _, _, e⟩
    obtain ⟨K6, n6, r6, rfl⟩ : ∃ A m c, vk5 = .slice A m c := by obtain ⟨A, c, e⟩ := hNw.tmin.k.read; exact ⟨_, _, _, e⟩
    have hMr := hLrQ.out.below hb5 hLrQ.out.lt
    have hMrQ := Lib.hid hMr
    have hNwQ := Lib.hid hNw
    have hb6 := Lib.hid (hbaQ.out.trans (Below.mono hb5 hbaQ.out.size))
    have hs5 := Lib.hid hb5.size
    have cz0 := hMr.cell 0
    have fz0 := hMr.free 0
    have cz1 := hMr.cell 1
    have fz1 := hMr.free 1
    have cz2 := hMr.cell 2
    have fz2 := hMr.free 2
    have cz3 := hMr.cell 3
    have fz3 := hMr.free 3
    have cz4 := hMr.cell 4
    have fz4 := hMr.free 4
    have cz5 := hMr.cell 5
    have fz5 := hMr.free 5
    have cz6 := hMr.cell 6
    have fz6 := hMr.free 6
    have cz7 := hMr.cell 7
    have fz7 := hMr.free 7
    have cz8 := hMr.cell 8
    have fz8 := hMr.free 8
    simp only [List.getElem?_cons_succ, List.getElem?_cons_zero] at cz0 cz1 cz2 cz3 cz4 cz5 cz6 cz7 cz8
    have hltz := hMr.lt
    clear hMr hNw hb5)
  have Tz := nine_turns (Turns.refl (fun g => g = w.heap.size + 1) w5) (g := w.heap.size + 1) (fun _ => rfl) 0 (.int .i64 y.k) (.int .i64 y.n) (.string ⟨y.s.toArray⟩) (.slice P6 m6 p6) (.int .i64 y.d.k) (.int .i64 y.d.n) (.string ⟨y.d.s.toArray⟩) (.slice I6 l6 q6) (.slice K6 n6 r6)
  have hMz := nine_res hMrQ.out (w.heap.size + 1) rfl (.int .i64 y.k) (.int .i64 y.n) (.string ⟨y.s.toArray⟩) (.slice P6 m6 p6) (.int .i64 y.d.k) (.int .i64 y.d.n) (.string ⟨y.d.s.toArray⟩) (.slice I6 l6 q6) (.slice K6 n6 r6)
  have rz0 := hMz.cell 0
  have rz1 := hMz.cell 1
  have rz2 := hMz.cell 2
  have rz3 := hMz.cell 3
  have rz4 := hMz.cell 4
  have rz5 := hMz.cell 5
  have rz6 := hMz.cell 6
  have rz7 := hMz.cell 7
  have rz8 := hMz.cell 8
  unfold nine at rz0 rz1 rz2 rz3 rz4 rz5 rz6 rz7 rz8
  simp only [List.getElem?_cons_succ, List.getElem?_cons_zero, Nat.zero_add] at rz0 rz1 rz2 rz3 rz4 rz5 rz6 rz7 rz8
  have hz9 := hZQ.out
  refine bodyPost_ret (v := .agg #[.int .i64 y.k, .int .i64 y.n, .string ⟨y.s.toArray⟩, .slice P6 m6 p6, .int .i64 y.d.k, .int .i64 y.d.n, .string ⟨y.d.s.toArray⟩, .slice I6 l6 q6, .slice K6 n6 r6]) (by simp [results, Tryz.results13, go_sem, rz0, rz1, rz2, rz3, rz4, rz5, rz6, rz7, rz8]) rfl ⟨.slice P6 m6 p6, .slice I6 l6 q6, .slice K6 n6 r6, rfl, ?_, ?_⟩
  · have h9 := hNwQ.out.turns Tz (fun g hg hB => by have e9 : g = w.heap.size + 1 := hg; omega)
    obtain ⟨D, S, h1, h2, h3, h4⟩ := h9
    exact ⟨D, S, h1, fun g hg => by have := h2 g hg; exact ⟨by omega, this.2⟩, fun g hg => by have := h3 g hg; exact ⟨by omega, this.2⟩, h4⟩
  · exact hb6.out.trans (Tz.below hb6.out.size (fun g hg => by have e9 : g = w.heap.size + 1 := hg; omega))
end Go.Proofs.YtpiekdcbjkgipaaGreat

/- The law ScopeResolves, walked. -/
namespace Go.Proofs.YtpiekdcbjkgipaaGreat
open Go.ChangeShapes Go.WideShapes Go.ChangeAt Go.RowKit Go.Deep
open TM (Tl Tm)

/-- the zero term -/
def zt0 : Tm := ⟨0, 0, [], [], ⟨0, 0, [], .nil⟩, .nil⟩
theorem zt0_eq (w : World) : Calls Tryz.prog 12 #[.agg #[.int .i64 0, .int .i64 0, .string ⟨#[]⟩, .slice none 0 0, .int .i64 0, .int .i64 0, .string ⟨#[]⟩, .slice none 0 0, .slice none 0 0], .agg #[.int .i64 0, .int .i64 0, .string ⟨#[]⟩, .slice none 0 0, .int .i64 0, .int .i64 0, .string ⟨#[]⟩, .slice none 0 0, .slice none 0 0]] w (BoolIff (zt0 = zt0) w) :=
  equal_any zt0 zt0 w (.slice none 0 0) (.slice none 0 0) (.slice none 0 0) (.slice none 0 0) (.slice none 0 0) (.slice none 0 0) ⟨PIn.nil w, In.nil w, TIn.nil w⟩ ⟨PIn.nil w, In.nil w, TIn.nil w⟩
set_option maxRecDepth 100000 in
set_option maxHeartbeats 8000000 in
theorem scopeResolves_walk (t : Tm) (W : World) (vp vi vk : Value) (h : TmIn W t vp vi vk) (hB : TmBd t) :
    Calls Tryz.prog 3 #[tmv t vp vi vk] W fun e w' => e = .returned (.bool true) ∧ Below W.heap.size W w' := by
  have hAw := Lib.hid (fun w => awake15_any w)
  have hSm := Lib.hid (fun (w' : World) (hb : Below W.heap.size W w') => tsmall_any t w' vp vi vk (h.below hb))
  obtain ⟨tP, tl, tp, rfl⟩ : ∃ A m c, vp = .slice A m c := by obtain ⟨A, c, e⟩ := h.p.read; exact ⟨_, _, _, e⟩
  obtain ⟨tI, tm, tq, rfl⟩ : ∃ A m c, vi = .slice A m c := by obtain ⟨A, c, e⟩ := h.d.read; exact ⟨_, _, _, e⟩
  obtain ⟨tK, tn, tr, rfl⟩ : ∃ A m c, vk = .slice A m c := by obtain ⟨A, c, e⟩ := h.k.read; exact ⟨_, _, _, e⟩
  have hM := Lies.made W 28 #[.int .i64 t.k, .int .i64 t.n, .string ⟨t.s.toArray⟩, .slice tP tl tp, .int .i64 t.d.k, .int .i64 t.d.n, .string ⟨t.d.s.toArray⟩, .slice tI tm tq, .slice tK tn tr]
  obtain ⟨W1, hW1⟩ : ∃ W1, W.alloc (.cells #[.int .i64 t.k, .int .i64 t.n, .string ⟨t.s.toArray⟩, .slice tP tl tp, .int .i64 t.d.k, .int .i64 t.d.n, .string ⟨t.d.s.toArray⟩, .slice tI tm tq, .slice tK tn tr] 28) = W1 := ⟨_, rfl⟩
  have hba : Below W.heap.size W W1 := by rw [← hW1]; exact (Below.refl _ W).alloc (Nat.le_refl _) _
  rw [hW1] at hM
  have y0 := hM.cell 0
  have y1 := hM.cell 1
  have y2 := hM.cell 2
  have y3 := hM.cell 3
  have y4 := hM.cell 4
  have y5 := hM.cell 5
  have y6 := hM.cell 6
  have y7 := hM.cell 7
  have y8 := hM.cell 8
  simp only [List.getElem?_cons_succ, List.getElem?_cons_zero] at y0 y1 y2 y3 y4 y5 y6 y7 y8
  have hM0 := Lib.hid hM
  have hb0 := Lib.hid hba
  clear hM hba
  have st0 : True := trivial
  cases hst : TM.smt t
  · rw [hst] at hSm
    clear hst h hB
    unfold tmv at hSm ⊢
    go_enter Tryz.func3, Tryz.ntmps3
    go_wp2_with (first
      | (clear st0
         go_at_call 5
         refine (hAw.out _).mono ?_
         rintro e w1 ⟨rfl, hq⟩
         have hb1 := Lib.hid (hb0.out.trans (Below.mono hq hb0.out.size))
         have hM1 := Lib.hid (hM0.out.below hq hM0.out.lt)
         have hM1x := hM1.out
         clear y0 y1 y2 y3 y4 y5 y6 y7 y8
         have y0 := hM1x.cell 0
         have y1 := hM1x.cell 1
         have y2 := hM1x.cell 2
         have y3 := hM1x.cell 3
         have y4 := hM1x.cell 4
         have y5 := hM1x.cell 5
         have y6 := hM1x.cell 6
         have y7 := hM1x.cell 7
         have y8 := hM1x.cell 8
         simp only [List.getElem?_cons_succ, List.getElem?_cons_zero] at y0 y1 y2 y3 y4 y5 y6 y7 y8
         clear hq hM1x
         have st1 : True := trivial)
      | (clear st1
         go_at_call 6
         refine (hSm.out _ hb1.out).mono ?_
         rintro e w2 ⟨rfl, hq⟩
         have hb2 := Lib.hid (hb1.out.trans (Below.mono hq hb1.out.size))
         have hM2 := Lib.hid (hM1.out.below hq hM1.out.lt)
         have hM2x := hM2.out
         clear y0 y1 y2 y3 y4 y5 y6 y7 y8
         have y0 := hM2x.cell 0
         have y1 := hM2x.cell 1
         have y2 := hM2x.cell 2
         have y3 := hM2x.cell 3
         have y4 := hM2x.cell 4
         have y5 := hM2x.cell 5
         have y6 := hM2x.cell 6
         have y7 := hM2x.cell 7
         have y8 := hM2x.cell 8
         simp only [List.getElem?_cons_succ, List.getElem?_cons_zero] at y0 y1 y2 y3 y4 y5 y6 y7 y8
         clear hq hM2x
         have st2 : True := trivial)
      | (clear st2
         go_at_call 5
         refine (hAw.out _).mono ?_
         rintro e w3 ⟨rfl, hq⟩
         have hb3 := Lib.hid (hb2.out.trans (Below.mono hq hb2.out.size))
         clear hq
         have st3 : True := trivial))
    go_ret
    exact ⟨rfl, hb3.out⟩
  rw [hst] at hSm
  obtain ⟨hsd, hsz, hmany⟩ := smt_facts hst
  have hRt := Lib.hid (fun (w' : World) (hb : Below W.heap.size W w') => tright_any t w' _ _ _ (h.below hb) hB hmany)
  have hOw := Lib.hid (fun (w' : World) (hb : Below W.heap.size W w') => town_any t w' _ _ _ (h.below hb) hsd (by omega))
  have hsa : TM.sz (TM.alpha t).ks ≤ 5000 := by
    rw [show (TM.alpha t).ks = TM.nmt (t.ps ++ TM.prs t.ks) t.ks from rfl, TM.nmt_sz]; omega
  have hRs := Lib.hid (fun (w' : World) (a1 a2 a3 : Value) (hi : TmIn w' t a1 a2 a3) => sresolve_any t w' a1 a2 a3 hi hB)
  have hAs := Lib.hid (fun (w' : World) (a1 a2 a3 : Value) (hi : TmIn w' t a1 a2 a3) => sassigned_any t w' a1 a2 a3 hi hB (hB.alpha hmany) hsa)
  have hRA := Lib.hid (fun (w' : World) (hb : Below W.heap.size W w') => rassigned_any t w' _ _ _ (h.below hb) hsd (by omega) hsa hmany)
  unfold RsO at hRs
  unfold AsN at hAs
  unfold zerov at hRs
  cases hok : TM.okt t
  · have hIs := Lib.hid (fun w => is_same 7 w)
    have hEz := Lib.hid zt0_eq
    rw [hok] at hRt
    have hok' := Lib.hid hok
    generalize SC.res t = r at hRs
    generalize SC.asg t = l at hAs
    unfold tmv at hSm hRt hOw hRs hAs ⊢
    clear hst hok h hB hsd hsz hmany hRA hsa
    go_enter Tryz.func3, Tryz.ntmps3
    go_wp2_with (first
      | (clear st0
         go_at_call 5
         refine (hAw.out _).mono ?_
         rintro e w1 ⟨rfl, hq⟩
         have hb1 := Lib.hid (hb0.out.trans (Below.mono hq hb0.out.size))
         have hM1 := Lib.hid (hM0.out.below hq hM0.out.lt)
         have hM1x := hM1.out
         clear y0 y1 y2 y3 y4 y5 y6 y7 y8
         have y0 := hM1x.cell 0
         have y1 := hM1x.cell 1
         have y2 := hM1x.cell 2
         have y3 := hM1x.cell 3
         have y4 := hM1x.cell 4
         have y5 := hM1x.cell 5
         have y6 := hM1x.cell 6
         have y7 := hM1x.cell 7
         have y8 := hM1x.cell 8
         simp only [List.getElem?_cons_succ, List.getElem?_cons_zero] at y0 y1 y2 y3 y4 y5 y6 y7 y8
         clear hq hM1x
         have st1 : True := trivial)
      | (clear st1
         go_at_call 6
         refine (hSm.out _ hb1.out).mono ?_
         rintro e w2 ⟨rfl, hq⟩
         have hb2 := Lib.hid (hb1.out.trans (Below.mono hq hb1.out.size))
         have hM2 := Lib.hid (hM1.out.below hq hM1.out.lt)
         have hM2x := hM2.out
         clear y0 y1 y2 y3 y4 y5 y6 y7 y8
         have y0 := hM2x.cell 0
         have y1 := hM2x.cell 1
         have y2 := hM2x.cell 2
         have y3 := hM2x.cell 3
         have y4 := hM2x.cell 4
         have y5 := hM2x.cell 5
         have y6 := hM2x.cell 6
         have y7 := hM2x.cell 7
         have y8 := hM2x.cell 8
         simp only [List.getElem?_cons_succ, List.getElem?_cons_zero] at y0 y1 y2 y3 y4 y5 y6 y7 y8
         clear hq hM2x
         have st2 : True := trivial)
      | (clear st2
         go_at_call 8
         refine (hOw.out _ hb2.out).mono ?_
         rintro e w3 ⟨vp3, vi3, vk3, rfl, hNw, hq⟩
         have hT3 := hNw.tmin
         obtain ⟨dP, dl, dp, rfl⟩ : ∃ A m c, vp3 = .slice A m c := by obtain ⟨A, c, e⟩ := hT3.p.read; exact ⟨_, _, _, e⟩
         obtain ⟨dI, dm, dq, rfl⟩ : ∃ A m c, vi3 = .slice A m c := by obtain ⟨A, c, e⟩ := hT3.d.read; exact ⟨_, _, _, e⟩
         obtain ⟨dK, dn, dr, rfl⟩ : ∃ A m c, vk3 = .slice A m c := by obtain ⟨A, c, e⟩ := hT3.k.read; exact ⟨_, _, _, e⟩
         have hT3' := Lib.hid hT3
         have hb3 := Lib.hid (hb2.out.trans (Below.mono hq hb2.out.size))
         have hM3 := Lib.hid (hM2.out.below hq hM2.out.lt)
         clear hq hNw hT3 y0 y1 y2 y3 y4 y5 y6 y7 y8
         have st3 : True := trivial)
      | (clear st3
         go_at_call 7
         refine (hRs.out _ _ _ _ hT3'.out).mono ?_
         rintro e w4 ⟨-, hno, hq⟩
         obtain rfl := hno hok'.out
         have hq2 : Below w3.heap.size w3 (w4.alloc (.cells #[.int .i64 0, .int .i64 0, .string ⟨#[]⟩, .slice none 0 0, .int .i64 0, .int .i64 0, .string ⟨#[]⟩, .slice none 0 0, .slice none 0 0] 28)) := Below.alloc hq (Below.size hq) _
         have hb4 := Lib.hid (hb3.out.trans (Below.mono hq2 hb3.out.size))
         have hM4 := Lib.hid (hM3.out.below hq2 hM3.out.lt)
         have hY4 := Lib.hid (Lies.made w4 28 #[.int .i64 0, .int .i64 0, .string ⟨#[]⟩, .slice none 0 0, .int .i64 0, .int .i64 0, .string ⟨#[]⟩, .slice none 0 0, .slice none 0 0])
         have hM4x := hM4.out
         have y0 := hM4x.cell 0
         have y1 := hM4x.cell 1
         have y2 := hM4x.cell 2
         have y3 := hM4x.cell 3
         have y4 := hM4x.cell 4
         have y5 := hM4x.cell 5
         have y6 := hM4x.cell 6
         have y7 := hM4x.cell 7
         have y8 := hM4x.cell 8
         simp only [List.getElem?_cons_succ, List.getElem?_cons_zero] at y0 y1 y2 y3 y4 y5 y6 y7 y8
         clear hq hq2 hM4x hno
         have st4 : True := trivial)
      | (clear st4
         go_at_call 8
         refine (hOw.out _ hb4.out).mono ?_
         rintro e w5 ⟨vp5, vi5, vk5, rfl, hNw, hq⟩
         have hT5 := hNw.tmin
         obtain ⟨eP, el, ep, rfl⟩ : ∃ A m c, vp5 = .slice A m c := by obtain ⟨A, c, e⟩ := hT5.p.read; exact ⟨_, _, _, e⟩
         obtain ⟨eI, em, eq, rfl⟩ : ∃ A m c, vi5 = .slice A m c := by obtain ⟨A, c, e⟩ := hT5.d.read; exact ⟨_, _, _, e⟩
         obtain ⟨eK, en, er, rfl⟩ : ∃ A m c, vk5 = .slice A m c := by obtain ⟨A, c, e⟩ := hT5.k.read; exact ⟨_, _, _, e⟩
         have hT5' := Lib.hid hT5
         have hb5 := Lib.hid (hb4.out.trans (Below.mono hq hb4.out.size))
         have hM5 := Lib.hid (hM4.out.below hq hM4.out.lt)
         have hY5 := Lib.hid (hY4.out.below hq hY4.out.lt)
         clear hq hNw hT5 y0 y1 y2 y3 y4 y5 y6 y7 y8
         have st5 : True := trivial)
      | (clear st5
         go_at_call 9
         refine (hAs.out _ _ _ _ hT5'.out).mono ?_
         rintro e w6 ⟨-, hno, hq⟩
         obtain rfl := hno hok'.out
         have hb6 := Lib.hid (hb5.out.trans (Below.mono hq hb5.out.size))
         have hM6 := Lib.hid (hM5.out.below hq hM5.out.lt)
         have hY6 := Lib.hid (hY5.out.below hq hY5.out.lt)
         have hM6x := hM6.out
         have y0 := hM6x.cell 0
         have y1 := hM6x.cell 1
         have y2 := hM6x.cell 2
         have y3 := hM6x.cell 3
         have y4 := hM6x.cell 4
         have y5 := hM6x.cell 5
         have y6 := hM6x.cell 6
         have y7 := hM6x.cell 7
         have y8 := hM6x.cell 8
         simp only [List.getElem?_cons_succ, List.getElem?_cons_zero] at y0 y1 y2 y3 y4 y5 y6 y7 y8
         clear hq hM6x hno
         have st6 : True := trivial)
      | (clear st6
         go_at_call 10
         refine (hRt.out _ hb6.out).mono ?_
         rintro e w7 ⟨rfl, hq⟩
         have hb7 := Lib.hid (hb6.out.trans (Below.mono hq hb6.out.size))
         have hM7 := Lib.hid (hM6.out.below hq hM6.out.lt)
         have hY7 := Lib.hid (hY6.out.below hq hY6.out.lt)
         have hM7x := hM7.out
         clear y0 y1 y2 y3 y4 y5 y6 y7 y8
         have y0 := hM7x.cell 0
         have y1 := hM7x.cell 1
         have y2 := hM7x.cell 2
         have y3 := hM7x.cell 3
         have y4 := hM7x.cell 4
         have y5 := hM7x.cell 5
         have y6 := hM7x.cell 6
         have y7 := hM7x.cell 7
         have y8 := hM7x.cell 8
         simp only [List.getElem?_cons_succ, List.getElem?_cons_zero] at y0 y1 y2 y3 y4 y5 y6 y7 y8
         have hY7x := hY7.out
         have u0 := hY7x.cell 0
         have u1 := hY7x.cell 1
         have u2 := hY7x.cell 2
         have u3 := hY7x.cell 3
         have u4 := hY7x.cell 4
         have u5 := hY7x.cell 5
         have u6 := hY7x.cell 6
         have u7 := hY7x.cell 7
         have u8 := hY7x.cell 8
         simp only [List.getElem?_cons_succ, List.getElem?_cons_zero] at u0 u1 u2 u3 u4 u5 u6 u7 u8
         have hltu := hY7x.lt
         have hlty := hM7x.lt
         clear hq hM7x hY7x
         have st7 : True := trivial)
      | (clear st7
         go_at_call 11
         refine (hIs.out _).mono ?_
         rintro e w8 ⟨rfl, rfl⟩
         have st8 : True := trivial)
      | (clear st8
         go_at_call 12
         refine (hEz.out _).mono ?_
         intro e w9 hq
         obtain ⟨rfl, hk9⟩ := boolIff_yes hq (by first | trivial | rfl)
         have hb9 := Lib.hid (hb7.out.trans (Below.mono hk9 hb7.out.size))
         clear hq hk9
         have st9 : True := trivial))
    go_ret
    exact ⟨rfl, hb9.out⟩
  have hhi : TM.hi t.ks ≤ 900 := by
    have h9 := hok
    unfold TM.okt at h9
    simp only [Bool.and_eq_true, decide_eq_true_eq] at h9
    have := h9.1.1.2
    omega
  have hRR := Lib.hid (fun (w' : World) (hb : Below W.heap.size W w') => rresolve_any t w' _ _ _ (h.below hb) hsd (by omega) hhi)
  rw [hok] at hRt
  have hok' := Lib.hid hok
  generalize SC.res t = r at hRs hRR
  generalize SC.asg t = l at hAs hRA
  unfold tmv at hSm hRt hOw hRs hAs hRA hRR ⊢
  clear hst hok h hB hsd hsz hmany hsa hhi
  go_enter Tryz.func3, Tryz.ntmps3
  go_upto_region 7 with (first
      | (clear st0
         go_at_call 5
         refine (hAw.out _).mono ?_
         rintro e w1 ⟨rfl, hq⟩
         have hb1 := Lib.hid (hb0.out.trans (Below.mono hq hb0.out.size))
         have hM1 := Lib.hid (hM0.out.below hq hM0.out.lt)
         have hM1x := hM1.out
         clear y0 y1 y2 y3 y4 y5 y6 y7 y8
         have y0 := hM1x.cell 0
         have y1 := hM1x.cell 1
         have y2 := hM1x.cell 2
         have y3 := hM1x.cell 3
         have y4 := hM1x.cell 4
         have y5 := hM1x.cell 5
         have y6 := hM1x.cell 6
         have y7 := hM1x.cell 7
         have y8 := hM1x.cell 8
         simp only [List.getElem?_cons_succ, List.getElem?_cons_zero] at y0 y1 y2 y3 y4 y5 y6 y7 y8
         clear hq hM1x
         have st1 : True := trivial)
      | (clear st1
         go_at_call 6
         refine (hSm.out _ hb1.out).mono ?_
         rintro e w2 ⟨rfl, hq⟩
         have hb2 := Lib.hid (hb1.out.trans (Below.mono hq hb1.out.size))
         have hM2 := Lib.hid (hM1.out.below hq hM1.out.lt)
         have hM2x := hM2.out
         clear y0 y1 y2 y3 y4 y5 y6 y7 y8
         have y0 := hM2x.cell 0
         have y1 := hM2x.cell 1
         have y2 := hM2x.cell 2
         have y3 := hM2x.cell 3
         have y4 := hM2x.cell 4
         have y5 := hM2x.cell 5
         have y6 := hM2x.cell 6
         have y7 := hM2x.cell 7
         have y8 := hM2x.cell 8
         simp only [List.getElem?_cons_succ, List.getElem?_cons_zero] at y0 y1 y2 y3 y4 y5 y6 y7 y8
         clear hq hM2x
         have st2 : True := trivial)
      | (clear st2
         go_at_call 8
         refine (hOw.out _ hb2.out).mono ?_
         rintro e w3 ⟨vp3, vi3, vk3, rfl, hNw, hq⟩
         have hT3 := hNw.tmin
         obtain ⟨dP, dl, dp, rfl⟩ : ∃ A m c, vp3 = .slice A m c := by obtain ⟨A, c, e⟩ := hT3.p.read; exact ⟨_, _, _, e⟩
         obtain ⟨dI, dm, dq, rfl⟩ : ∃ A m c, vi3 = .slice A m c := by obtain ⟨A, c, e⟩ := hT3.d.read; exact ⟨_, _, _, e⟩
         obtain ⟨dK, dn, dr, rfl⟩ : ∃ A m c, vk3 = .slice A m c := by obtain ⟨A, c, e⟩ := hT3.k.read; exact ⟨_, _, _, e⟩
         have hT3' := Lib.hid hT3
         have hb3 := Lib.hid (hb2.out.trans (Below.mono hq hb2.out.size))
         have hM3 := Lib.hid (hM2.out.below hq hM2.out.lt)
         clear hq hNw hT3 y0 y1 y2 y3 y4 y5 y6 y7 y8
         have st3 : True := trivial)
      | (clear st3
         go_at_call 7
         refine (hRs.out _ _ _ _ hT3'.out).mono ?_
         rintro e w4 ⟨hyes, -, hq⟩
         obtain ⟨vp4, vi4, vk4, rfl, hT4⟩ := hyes hok'.out
         obtain ⟨bP, bl, bp, rfl⟩ : ∃ A m c, vp4 = .slice A m c := by obtain ⟨A, c, e⟩ := hT4.p.read; exact ⟨_, _, _, e⟩
         obtain ⟨bI, bm, bq, rfl⟩ : ∃ A m c, vi4 = .slice A m c := by obtain ⟨A, c, e⟩ := hT4.d.read; exact ⟨_, _, _, e⟩
         obtain ⟨bK, bn, br, rfl⟩ : ∃ A m c, vk4 = .slice A m c := by obtain ⟨A, c, e⟩ := hT4.k.read; exact ⟨_, _, _, e⟩
         have hq2 : Below w3.heap.size w3 (w4.alloc (.cells #[.int .i64 r.k, .int .i64 r.n, .string ⟨r.s.toArray⟩, .slice bP bl bp, .int .i64 r.d.k, .int .i64 r.d.n, .string ⟨r.d.s.toArray⟩, .slice bI bm bq, .slice bK bn br] 28)) := Below.alloc hq (Below.size hq) _
         have hb4 := Lib.hid (hb3.out.trans (Below.mono hq2 hb3.out.size))
         have hM4 := Lib.hid (hM3.out.below hq2 hM3.out.lt)
         have hY4 := Lib.hid (Lies.made w4 28 #[.int .i64 r.k, .int .i64 r.n, .string ⟨r.s.toArray⟩, .slice bP bl bp, .int .i64 r.d.k, .int .i64 r.d.n, .string ⟨r.d.s.toArray⟩, .slice bI bm bq, .slice bK bn br])
         have hT4' := Lib.hid (hT4.below ((Below.refl _ w4).alloc (Nat.le_refl _) (.cells #[.int .i64 r.k, .int .i64 r.n, .string ⟨r.s.toArray⟩, .slice bP bl bp, .int .i64 r.d.k, .int .i64 r.d.n, .string ⟨r.d.s.toArray⟩, .slice bI bm bq, .slice bK bn br] 28)))
         have hM4x := hM4.out
         have y0 := hM4x.cell 0
         have y1 := hM4x.cell 1
         have y2 := hM4x.cell 2
         have y3 := hM4x.cell 3
         have y4 := hM4x.cell 4
         have y5 := hM4x.cell 5
         have y6 := hM4x.cell 6
         have y7 := hM4x.cell 7
         have y8 := hM4x.cell 8
         simp only [List.getElem?_cons_succ, List.getElem?_cons_zero] at y0 y1 y2 y3 y4 y5 y6 y7 y8
         clear hq hq2 hM4x hyes hT4
         have st4 : True := trivial)
      | (clear st4
         go_at_call 8
         refine (hOw.out _ hb4.out).mono ?_
         rintro e w5 ⟨vp5, vi5, vk5, rfl, hNw, hq⟩
         have hT5 := hNw.tmin
         obtain ⟨eP, el, ep, rfl⟩ : ∃ A m c, vp5 = .slice A m c := by obtain ⟨A, c, e⟩ := hT5.p.read; exact ⟨_, _, _, e⟩
         obtain ⟨eI, em, eq, rfl⟩ : ∃ A m c, vi5 = .slice A m c := by obtain ⟨A, c, e⟩ := hT5.d.read; exact ⟨_, _, _, e⟩
         obtain ⟨eK, en, er, rfl⟩ : ∃ A m c, vk5 = .slice A m c := by obtain ⟨A, c, e⟩ := hT5.k.read; exact ⟨_, _, _, e⟩
         have hT5' := Lib.hid hT5
         have hb5 := Lib.hid (hb4.out.trans (Below.mono hq hb4.out.size))
         have hM5 := Lib.hid (hM4.out.below hq hM4.out.lt)
         have hY5 := Lib.hid (hY4.out.below hq hY4.out.lt)
         have hT4b := Lib.hid (hT4'.out.below hq)
         clear hq hNw hT5 y0 y1 y2 y3 y4 y5 y6 y7 y8
         have st5 : True := trivial)
      | (clear st5
         go_at_call 9
         refine (hAs.out _ _ _ _ hT5'.out).mono ?_
         rintro e w6 ⟨hyes, -, hq⟩
         obtain ⟨v6, rfl, hO6⟩ := hyes hok'.out
         obtain ⟨oA, ol, oc, rfl⟩ := slice_of hO6
         have hO6' := Lib.hid hO6
         have hb6 := Lib.hid (hb5.out.trans (Below.mono hq hb5.out.size))
         have hM6 := Lib.hid (hM5.out.below hq hM5.out.lt)
         have hY6 := Lib.hid (hY5.out.below hq hY5.out.lt)
         have hT4c := Lib.hid (hT4b.out.below hq)
         have hM6x := hM6.out
         have y0 := hM6x.cell 0
         have y1 := hM6x.cell 1
         have y2 := hM6x.cell 2
         have y3 := hM6x.cell 3
         have y4 := hM6x.cell 4
         have y5 := hM6x.cell 5
         have y6 := hM6x.cell 6
         have y7 := hM6x.cell 7
         have y8 := hM6x.cell 8
         simp only [List.getElem?_cons_succ, List.getElem?_cons_zero] at y0 y1 y2 y3 y4 y5 y6 y7 y8
         clear hq hM6x hyes hO6
         have st6 : True := trivial)
      | (clear st6
         go_at_call 10
         refine (hRt.out _ hb6.out).mono ?_
         rintro e w7 ⟨rfl, hq⟩
         have hb7 := Lib.hid (hb6.out.trans (Below.mono hq hb6.out.size))
         have hM7 := Lib.hid (hM6.out.below hq hM6.out.lt)
         have hY7 := Lib.hid (hY6.out.below hq hY6.out.lt)
         have hT4d := Lib.hid (hT4c.out.below hq)
         have hO7 := Lib.hid (hO6'.out.pin.below hq)
         have hM7x := hM7.out
         clear y0 y1 y2 y3 y4 y5 y6 y7 y8
         have y0 := hM7x.cell 0
         have y1 := hM7x.cell 1
         have y2 := hM7x.cell 2
         have y3 := hM7x.cell 3
         have y4 := hM7x.cell 4
         have y5 := hM7x.cell 5
         have y6 := hM7x.cell 6
         have y7 := hM7x.cell 7
         have y8 := hM7x.cell 8
         simp only [List.getElem?_cons_succ, List.getElem?_cons_zero] at y0 y1 y2 y3 y4 y5 y6 y7 y8
         have hY7x := hY7.out
         have u0 := hY7x.cell 0
         have u1 := hY7x.cell 1
         have u2 := hY7x.cell 2
         have u3 := hY7x.cell 3
         have u4 := hY7x.cell 4
         have u5 := hY7x.cell 5
         have u6 := hY7x.cell 6
         have u7 := hY7x.cell 7
         have u8 := hY7x.cell 8
         simp only [List.getElem?_cons_succ, List.getElem?_cons_zero] at u0 u1 u2 u3 u4 u5 u6 u7 u8
         have hltu := hY7x.lt
         have hlty := hM7x.lt
         clear hq hM7x hY7x
         have st7 : True := trivial))
  refine wp_region_held_drew (S := fun w' => Below w7.heap.size w7 w') rfl (below_drew1 (Below.refl _ w7)) (fun hHeld => ?_)
  refine wpAnyH_take (i := 0) (oi := { dst := some 39, op := Go.Op.move (Go.Operand.tmp 4), type := 32, pos := "law.go:34", after := #[], guard := none }) (v := ?_) rfl (by kernel_rfl) (by kernel_rfl) (by kernel_rfl) (fun _ _ _ h => h) (Or.inl ⟨by rfl, ?_⟩) (by assumption) ?_
  rotate_left
  · intro w hSw; clear hSw; go_simp; try with_reducible rfl
  try simp only [Act.put, List.setIfInBounds_toArray, List.set_cons_zero, List.set_cons_succ]
  refine wpAnyH_take (i := 1) (oi := { dst := some 40, op := Go.Op.binOp Go.BinOp.eql 32 (Go.Operand.tmp 39) (Go.Operand.const Go.Value.nilIface) 32, type := 4, pos := "law.go:34", after := #[{ on := 0, ground := Go.Ground.data }], guard := none }) (v := ?_) rfl (by kernel_rfl) (by kernel_rfl) (by kernel_rfl) (fun _ _ _ h => h) (Or.inl ⟨by rfl, ?_⟩) (by assumption) ?_
  rotate_left
  · intro w hSw; clear hSw; go_simp; try with_reducible rfl
  try simp only [Act.put, List.setIfInBounds_toArray, List.set_cons_zero, List.set_cons_succ]
  refine wpAnyH_take (i := 2) (oi := { dst := some 41, op := Go.Op.move (Go.Operand.tmp 40), type := 4, pos := "law.go:34", after := #[{ on := 1, ground := Go.Ground.data }], guard := none }) (v := ?_) rfl (by kernel_rfl) (by kernel_rfl) (by kernel_rfl) (fun _ _ _ h => h) (Or.inl ⟨by rfl, ?_⟩) (by assumption) ?_
  rotate_left
  · intro w hSw; clear hSw; go_simp; try with_reducible rfl
  try simp only [Act.put, List.setIfInBounds_toArray, List.set_cons_zero, List.set_cons_succ]
  refine wpAnyH_take (i := 3) (oi := { dst := some 42, op := Go.Op.load 28 (Go.Operand.tmp 3), type := 28, pos := "law.go:34", after := #[{ on := 2, ground := Go.Ground.guard }], guard := some (2, true) }) (v := ?_) rfl (by kernel_rfl) (by kernel_rfl) (by kernel_rfl) (fun _ _ _ h => h) (Or.inl ⟨by rfl, ?_⟩) (by assumption) ?_
  rotate_left
  · intro w7 hS7
    have s0 := (Below.cell hS7 (p := ⟨w4.heap.size, 0, none⟩) hltu).trans u0
    have s1 := (Below.cell hS7 (p := ⟨w4.heap.size, 1, none⟩) hltu).trans u1
    have s2 := (Below.cell hS7 (p := ⟨w4.heap.size, 2, none⟩) hltu).trans u2
    have s3 := (Below.cell hS7 (p := ⟨w4.heap.size, 3, none⟩) hltu).trans u3
    have s4 := (Below.cell hS7 (p := ⟨w4.heap.size, 4, none⟩) hltu).trans u4
    have s5 := (Below.cell hS7 (p := ⟨w4.heap.size, 5, none⟩) hltu).trans u5
    have s6 := (Below.cell hS7 (p := ⟨w4.heap.size, 6, none⟩) hltu).trans u6
    have s7 := (Below.cell hS7 (p := ⟨w4.heap.size, 7, none⟩) hltu).trans u7
    have s8 := (Below.cell hS7 (p := ⟨w4.heap.size, 8, none⟩) hltu).trans u8
    clear hS7
    go_simp
    try with_reducible rfl
  try simp only [Act.put, List.setIfInBounds_toArray, List.set_cons_zero, List.set_cons_succ]
  refine wpAnyH_take (i := 4) (oi := { dst := some 43, op := Go.Op.load 28 (Go.Operand.tmp 1), type := 28, pos := "law.go:34", after := #[{ on := 2, ground := Go.Ground.guard }], guard := some (2, true) }) (v := ?_) rfl (by kernel_rfl) (by kernel_rfl) (by kernel_rfl) (fun _ _ _ h => h) (Or.inl ⟨by rfl, ?_⟩) (by assumption) ?_
  rotate_left
  · intro w7 hS7
    have s0 := (Below.cell hS7 (p := ⟨W.heap.size, 0, none⟩) hlty).trans y0
    have s1 := (Below.cell hS7 (p := ⟨W.heap.size, 1, none⟩) hlty).trans y1
    have s2 := (Below.cell hS7 (p := ⟨W.heap.size, 2, none⟩) hlty).trans y2
    have s3 := (Below.cell hS7 (p := ⟨W.heap.size, 3, none⟩) hlty).trans y3
    have s4 := (Below.cell hS7 (p := ⟨W.heap.size, 4, none⟩) hlty).trans y4
    have s5 := (Below.cell hS7 (p := ⟨W.heap.size, 5, none⟩) hlty).trans y5
    have s6 := (Below.cell hS7 (p := ⟨W.heap.size, 6, none⟩) hlty).trans y6
    have s7 := (Below.cell hS7 (p := ⟨W.heap.size, 7, none⟩) hlty).trans y7
    have s8 := (Below.cell hS7 (p := ⟨W.heap.size, 8, none⟩) hlty).trans y8
    clear hS7
    go_simp
    try with_reducible rfl
  try simp only [Act.put, List.setIfInBounds_toArray, List.set_cons_zero, List.set_cons_succ]
  refine wpAnyH_ready (rs := [5]) (by kernel_rfl) (by simp) ?_
  refine AllReadyH.cons (o := { dst := some 44, op := Go.Op.call { callee := Go.Callee.value (Go.Operand.func 13), args := #[Go.Operand.tmp 43], argTypes := #[28] }, type := 28, pos := "law.go:34", after := #[{ on := 4, ground := Go.Ground.data }, { on := 2, ground := Go.Ground.chain }, { on := 2, ground := Go.Ground.guard }], guard := some (2, true) }) rfl (fun K hK => ?_) AllReadyH.nil
  rw [if_pos (by rfl)]
  go_simp
  refine (hRR.out _ (hb7.out.trans (Below.mono hHeld hb7.out.size))).mono ?_
  rintro e w8 ⟨vp8, vi8, vk8, rfl, hNw8, hq8⟩
  have hT8 := hNw8.tmin
  obtain ⟨fP, fl, fp, rfl⟩ : ∃ A m c, vp8 = .slice A m c := by obtain ⟨A, c, e⟩ := hT8.p.read; exact ⟨_, _, _, e⟩
  obtain ⟨fI, fm, fq, rfl⟩ : ∃ A m c, vi8 = .slice A m c := by obtain ⟨A, c, e⟩ := hT8.d.read; exact ⟨_, _, _, e⟩
  obtain ⟨fK, fn, fr, rfl⟩ : ∃ A m c, vk8 = .slice A m c := by obtain ⟨A, c, e⟩ := hT8.k.read; exact ⟨_, _, _, e⟩
  have hH8 := Lib.hid (Below.trans hHeld (Below.mono hq8 hHeld.size))
  have hEq := Lib.hid (equal_any r r w8 _ _ _ _ _ _ (hT4d.out.below hH8.out) hT8)
  unfold tmv at hEq
  clear hNw8 hT8 hq8 hHeld
  refine hK.out _ _ hH8.out (fun hHeld => ?_)
  clear hK K
  try simp only [Act.put, List.setIfInBounds_toArray, List.set_cons_zero, List.set_cons_succ]
  refine wpAnyH_ready (rs := [6]) (by kernel_rfl) (by simp) ?_
  refine AllReadyH.cons (o := { dst := some 45, op := Go.Op.call { callee := Go.Callee.value (Go.Operand.func 12), args := #[Go.Operand.tmp 42, Go.Operand.tmp 44], argTypes := #[28, 28] }, type := 4, pos := "law.go:34", after := #[{ on := 3, ground := Go.Ground.data }, { on := 5, ground := Go.Ground.data }, { on := 5, ground := Go.Ground.chain }, { on := 2, ground := Go.Ground.guard }], guard := some (2, true) }) rfl (fun K hK => ?_) AllReadyH.nil
  rw [if_pos (by rfl)]
  go_simp
  refine hEq.out.mono ?_
  intro e w9 hq
  obtain ⟨rfl, hk9⟩ := boolIff_yes hq (by first | trivial | rfl)
  have hH9 := Lib.hid (Below.trans hHeld (Below.mono hk9 hHeld.size))
  clear hq hk9 hHeld
  refine hK.out _ _ hH9.out (fun hHeld => ?_)
  clear hK K
  try simp only [Act.put, List.setIfInBounds_toArray, List.set_cons_zero, List.set_cons_succ]
  refine wpAnyH_take (i := 7) (oi := { dst := some 46, op := Go.Op.pick (Go.Operand.tmp 41) (Go.Operand.tmp 45) (Go.Operand.const (Go.Value.bool false)), type := 4, pos := "law.go:34", after := #[{ on := 2, ground := Go.Ground.data }, { on := 6, ground := Go.Ground.data }], guard := none }) (v := ?_) rfl (by kernel_rfl) (by kernel_rfl) (by kernel_rfl) (fun _ _ _ h => h) (Or.inl ⟨by rfl, ?_⟩) (by assumption) ?_
  rotate_left
  · intro w hSw; clear hSw; go_simp; try with_reducible rfl
  try simp only [Act.put, List.setIfInBounds_toArray, List.set_cons_zero, List.set_cons_succ]
  refine wpAnyH_take (i := 8) (oi := { dst := some 47, op := Go.Op.move (Go.Operand.tmp 46), type := 4, pos := "law.go:34", after := #[{ on := 7, ground := Go.Ground.data }, { on := 6, ground := Go.Ground.chain }], guard := none }) (v := ?_) rfl (by kernel_rfl) (by kernel_rfl) (by kernel_rfl) (fun _ _ _ h => h) (Or.inl ⟨by rfl, ?_⟩) (by assumption) ?_
  rotate_left
  · intro w hSw; clear hSw; go_simp; try with_reducible rfl
  try simp only [Act.put, List.setIfInBounds_toArray, List.set_cons_zero, List.set_cons_succ]
  refine wpAnyH_take (i := 9) (oi := { dst := some 48, op := Go.Op.move (Go.Operand.tmp 5), type := 22, pos := "law.go:34", after := #[{ on := 8, ground := Go.Ground.guard }], guard := some (8, true) }) (v := ?_) rfl (by kernel_rfl) (by kernel_rfl) (by kernel_rfl) (fun _ _ _ h => h) (Or.inl ⟨by rfl, ?_⟩) (by assumption) ?_
  rotate_left
  · intro w hSw; clear hSw; go_simp; try with_reducible rfl
  try simp only [Act.put, List.setIfInBounds_toArray, List.set_cons_zero, List.set_cons_succ]
  refine wpAnyH_take (i := 10) (oi := { dst := some 49, op := Go.Op.load 28 (Go.Operand.tmp 1), type := 28, pos := "law.go:34", after := #[{ on := 8, ground := Go.Ground.guard }], guard := some (8, true) }) (v := ?_) rfl (by kernel_rfl) (by kernel_rfl) (by kernel_rfl) (fun _ _ _ h => h) (Or.inl ⟨by rfl, ?_⟩) (by assumption) ?_
  rotate_left
  · intro w7 hS7
    have s0 := (Below.cell hS7 (p := ⟨W.heap.size, 0, none⟩) hlty).trans y0
    have s1 := (Below.cell hS7 (p := ⟨W.heap.size, 1, none⟩) hlty).trans y1
    have s2 := (Below.cell hS7 (p := ⟨W.heap.size, 2, none⟩) hlty).trans y2
    have s3 := (Below.cell hS7 (p := ⟨W.heap.size, 3, none⟩) hlty).trans y3
    have s4 := (Below.cell hS7 (p := ⟨W.heap.size, 4, none⟩) hlty).trans y4
    have s5 := (Below.cell hS7 (p := ⟨W.heap.size, 5, none⟩) hlty).trans y5
    have s6 := (Below.cell hS7 (p := ⟨W.heap.size, 6, none⟩) hlty).trans y6
    have s7 := (Below.cell hS7 (p := ⟨W.heap.size, 7, none⟩) hlty).trans y7
    have s8 := (Below.cell hS7 (p := ⟨W.heap.size, 8, none⟩) hlty).trans y8
    clear hS7
    go_simp
    try with_reducible rfl
  try simp only [Act.put, List.setIfInBounds_toArray, List.set_cons_zero, List.set_cons_succ]
  refine wpAnyH_ready (rs := [11]) (by kernel_rfl) (by simp) ?_
  refine AllReadyH.cons (o := { dst := some 50, op := Go.Op.call { callee := Go.Callee.value (Go.Operand.func 15), args := #[Go.Operand.tmp 49], argTypes := #[28] }, type := 22, pos := "law.go:34", after := #[{ on := 10, ground := Go.Ground.data }, { on := 8, ground := Go.Ground.chain }, { on := 8, ground := Go.Ground.guard }], guard := some (8, true) }) rfl (fun K hK => ?_) AllReadyH.nil
  rw [if_pos (by rfl)]
  go_simp
  refine (hRA.out _ (hb7.out.trans (Below.mono hHeld hb7.out.size))).mono ?_
  rintro e w10 ⟨v10, rfl, hO10, hq10⟩
  obtain ⟨qA, ql, qc, rfl⟩ := slice_of hO10
  have hH10 := Lib.hid (Below.trans hHeld (Below.mono hq10 hHeld.size))
  have hSI := Lib.hid ((same_ints w10 _ _ _ _ (hO7.out.below hH10.out) hO10.pin).mono (fun e w' h => (⟨by rw [h.1]; simp, h.2⟩ : e = .returned (.bool true) ∧ Went w10 w')))
  clear hO10 hq10 hHeld
  refine hK.out _ _ hH10.out (fun hHeld => ?_)
  clear hK K
  try simp only [Act.put, List.setIfInBounds_toArray, List.set_cons_zero, List.set_cons_succ]
  refine wpAnyH_ready (rs := [12]) (by kernel_rfl) (by simp) ?_
  refine AllReadyH.cons (o := { dst := some 51, op := Go.Op.call { callee := Go.Callee.value (Go.Operand.func 14), args := #[Go.Operand.tmp 48, Go.Operand.tmp 50], argTypes := #[22, 22] }, type := 4, pos := "law.go:34", after := #[{ on := 9, ground := Go.Ground.data }, { on := 11, ground := Go.Ground.data }, { on := 11, ground := Go.Ground.chain }, { on := 8, ground := Go.Ground.guard }], guard := some (8, true) }) rfl (fun K hK => ?_) AllReadyH.nil
  rw [if_pos (by rfl)]
  go_simp
  refine hSI.out.mono ?_
  rintro e w11 ⟨rfl, hq11⟩
  have hH11 := Lib.hid (Below.trans hHeld (Below.mono hq11 hHeld.size))
  clear hq11 hHeld
  refine hK.out _ _ hH11.out (fun hHeld => ?_)
  clear hK K
  try simp only [Act.put, List.setIfInBounds_toArray, List.set_cons_zero, List.set_cons_succ]
  refine wpAnyH_take (i := 13) (oi := { dst := some 52, op := Go.Op.pick (Go.Operand.tmp 47) (Go.Operand.tmp 51) (Go.Operand.const (Go.Value.bool false)), type := 4, pos := "law.go:34", after := #[{ on := 8, ground := Go.Ground.data }, { on := 12, ground := Go.Ground.data }], guard := none }) (v := ?_) rfl (by kernel_rfl) (by kernel_rfl) (by kernel_rfl) (fun _ _ _ h => h) (Or.inl ⟨by rfl, ?_⟩) (by assumption) ?_
  rotate_left
  · intro w hSw; clear hSw; go_simp; try with_reducible rfl
  try simp only [Act.put, List.setIfInBounds_toArray, List.set_cons_zero, List.set_cons_succ]
  refine wpAnyH_take (i := 14) (oi := { dst := some 2, op := Go.Op.assign (Go.Operand.tmp 52), type := 4, pos := "law.go:34", after := #[{ on := 13, ground := Go.Ground.data }, { on := 12, ground := Go.Ground.chain }, { on := 0, ground := Go.Ground.phase }, { on := 1, ground := Go.Ground.phase }, { on := 2, ground := Go.Ground.phase }, { on := 3, ground := Go.Ground.phase }, { on := 4, ground := Go.Ground.phase }, { on := 5, ground := Go.Ground.phase }, { on := 6, ground := Go.Ground.phase }, { on := 7, ground := Go.Ground.phase }, { on := 8, ground := Go.Ground.phase }, { on := 9, ground := Go.Ground.phase }, { on := 10, ground := Go.Ground.phase }, { on := 11, ground := Go.Ground.phase }, { on := 12, ground := Go.Ground.phase }, { on := 13, ground := Go.Ground.phase }], guard := none }) (v := ?_) rfl (by kernel_rfl) (by kernel_rfl) (by kernel_rfl) (fun _ _ _ h => h) (Or.inl ⟨by rfl, ?_⟩) (by assumption) ?_
  rotate_left
  · intro w hSw; clear hSw; go_simp; try with_reducible rfl
  try simp only [Act.put, List.setIfInBounds_toArray, List.set_cons_zero, List.set_cons_succ]
  refine wpAnyH_done (by kernel_rfl) ?_ _
  go_wp2_with fail
  go_ret
  exact ⟨rfl, hb7.out.trans (Below.mono hH11.out hb7.out.size)⟩
end Go.Proofs.YtpiekdcbjkgipaaGreat

