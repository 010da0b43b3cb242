/- The reference of layer 10: numbered, a term whose locals are their places. -/
import Derived.Test.YthbgopmpdkefkaaGreatDoorQ34
import Derived.Deep.Cut
import Derived.Deep.CutRange
import Derived.Deep.CutBlock
import Derived.Test.YthbgopmpdkefkaaGreatDoorQ33
import Derived.Test.YthbgopmpdkefkaaGreatDoorShelf
namespace Go.Proofs.YthbgopmpdkefkaaGreatDoor
open Go.ChangeShapes Go.WideShapes Go.ChangeAt Go.RowKit Go.Deep
open TM (Tl Tm)

def NmOk (t : Tm) : Prop := ∀ (w : World) (vl : Value) (l : List Int) (vp vi vk : Value), TmIn w t vp vi vk → PIn w vl l → TM.sd1 t = true → TM.sz t.ks ≤ 5000 →
  Calls Tryz.prog 43 #[tmv t vp vi vk, vl] w fun e w' => ∃ vp' vi' vk', e = .returned (tmv (TM.nm1 l t) vp' vi' vk') ∧ NewT w.heap.size w' (TM.nm1 l t) vp' vi' vk' ∧ Went w w'
set_option maxRecDepth 100000 in
set_option maxHeartbeats 8000000 in
theorem nm_step (k n : Int) (s : List UInt8) (ps : List Int) (d : RM.Dm) (ks : Tl) (hR : ∀ i x, ks.at_ i = some x → NmOk x) : NmOk ⟨k, n, s, ps, d, ks⟩ := by
  intro w vl l vp vi vk h hvl hsd hsz
  obtain ⟨P3, p3, rfl⟩ := h.p.read
  obtain ⟨I7, q7, rfl⟩ := h.d.read
  obtain ⟨A1, c1, rfl⟩ := h.k.read
  have hlen := h.k.len
  have hTk := h.k
  have hTp := h.p
  have hTd := h.d
  unfold TM.sd1 at hsd
  simp only [Bool.and_eq_true, decide_eq_true_eq] at hsd
  simp only at hlen hTk hTp hTd hsd hsz ⊢
  have hd5 : SM.sz d.is ≤ 5000 := by
    have := hsd.1.1
    unfold SM.small at this
    simp only [Bool.and_eq_true, decide_eq_true_eq] at this
    omega
  have hO := Lib.hid (fun (w' : World) (hb : Below w.heap.size w w') => own_any d w' _ (hTd.below hb) hd5)
  have hpl := hsd.1.2
  obtain ⟨N, hN⟩ : ∃ N, ks.len = N := ⟨_, rfl⟩
  obtain ⟨L3, hL3⟩ : ∃ x, ps.length = x := ⟨_, rfl⟩
  obtain ⟨L7, hL7⟩ : ∃ x, d.is.len = x := ⟨_, rfl⟩
  have hN5 : N ≤ 5000 := by have := TM.len_sz ks; omega
  have hPl := Lib.hid (fun (w' : World) (hb : Below w.heap.size w w') (m : Int) => place_any w' vl l m (hvl.below hb))
  obtain ⟨nn, hnn⟩ : ∃ nn, (if k = 2 ∨ k = 4 then TM.pl l n else n) = nn := ⟨_, rfl⟩
  obtain ⟨Al, Ll, cl, rfl⟩ : ∃ A m c, vl = .slice A m c := by obtain ⟨A, c, e⟩ := hvl.read; exact ⟨_, _, _, e⟩
  unfold TM.nm1
  simp only
  rw [hnn]
  unfold tmv
  simp only
  unfold dtv at hO
  rw [hN] at hlen hTk ⊢
  rw [hL3] at hTp hpl
  rw [hL7] at hO
  rw [hL3, hL7]
  have hN' := Lib.hid hN
  have hL3' := Lib.hid hL3
  have hR' := Lib.hid hR
  have hsz' := Lib.hid hsz
  have hsd' := Lib.hid hsd.2
  have hL := (Lies.made w 28 #[.int .i64 k, .int .i64 n, .string ⟨s.toArray⟩, .slice P3 L3 p3, .int .i64 d.k, .int .i64 d.n, .string ⟨d.s.toArray⟩, .slice I7 L7 q7, .slice A1 N c1]).alloc (.cells #[.int .i64 0, .int .i64 0, .string ⟨#[]⟩, .slice none 0 0, .int .i64 0, .int .i64 0, .string ⟨#[]⟩, .slice none 0 0, .slice none 0 0] 28)
  have hz1 : (w.alloc (.cells #[.int .i64 k, .int .i64 n, .string ⟨s.toArray⟩, .slice P3 L3 p3, .int .i64 d.k, .int .i64 d.n, .string ⟨d.s.toArray⟩, .slice I7 L7 q7, .slice A1 N c1] 28)).heap.size = w.heap.size + 1 := by simp
  have hLr := Lies.made (w.alloc (.cells #[.int .i64 k, .int .i64 n, .string ⟨s.toArray⟩, .slice P3 L3 p3, .int .i64 d.k, .int .i64 d.n, .string ⟨d.s.toArray⟩, .slice I7 L7 q7, .slice A1 N c1] 28)) 28 #[.int .i64 0, .int .i64 0, .string ⟨#[]⟩, .slice none 0 0, .int .i64 0, .int .i64 0, .string ⟨#[]⟩, .slice none 0 0, .slice none 0 0]
  rw [hz1] at hLr
  obtain ⟨W2, hW2⟩ : ∃ W2, ((w.alloc (.cells #[.int .i64 k, .int .i64 n, .string ⟨s.toArray⟩, .slice P3 L3 p3, .int .i64 d.k, .int .i64 d.n, .string ⟨d.s.toArray⟩, .slice I7 L7 q7, .slice A1 N c1] 28)).alloc (.cells #[.int .i64 0, .int .i64 0, .string ⟨#[]⟩, .slice none 0 0, .int .i64 0, .int .i64 0, .string ⟨#[]⟩, .slice none 0 0, .slice none 0 0] 28)) = W2 := ⟨_, rfl⟩
  have hba : Below w.heap.size w W2 := by rw [← hW2]; exact ((Below.refl _ w).alloc (Nat.le_refl _) _).alloc (by simp) _
  have hZ2 : W2.heap.size = w.heap.size + 2 := by rw [← hW2]; simp
  rw [hW2] at hL hLr
  have x0 := hL.cell 0
  have x1 := hL.cell 1
  have f1 := hL.free 1
  have hltL := hL.lt
  simp only [List.getElem?_cons_succ, List.getElem?_cons_zero] at x0 x1
  have hL5 := hL.stored 1 (.int .i64 nn)
  have hLr5 := hLr.far (p := ⟨w.heap.size, 1, none⟩) (by simp) (.int .i64 nn)
  simp only [List.set_cons_succ, List.set_cons_zero] at hL5
  have hb5 : Below w.heap.size w (W2.setCell ⟨w.heap.size, 1, none⟩ (.int .i64 nn)) := hba.setCell (p := ⟨w.heap.size, 1, none⟩) (Nat.le_refl _) _
  have hnn' := Lib.hid hnn
  clear hN hR hL3 hL7 hz1 h hsd hsz hTd hd5 hnn
  obtain ⟨kk, hkk⟩ : ∃ kk, decide (k = 2 ∨ k = 4) = kk := ⟨_, rfl⟩
  have hkk' := Lib.hid hkk
  clear hkk
  go_enter Tryz.func43, Tryz.ntmps43
  go_upto_region 1 with fail
  go_cut [16] from 9 to 16 (fun s16 wx => s16 = .bool kk ∧ W2 = wx)
  case first =>
    by_cases h2 : k = 2
    · obtain rfl : kk = true := by rw [← hkk'.out]; simp [h2]
      subst h2
      go_wp2_with fail
      go_meet
      case rel => exact ⟨rfl, rfl⟩
    · by_cases h4 : k = 4
      · obtain rfl : kk = true := by rw [← hkk'.out]; simp [h4]
        subst h4
        go_wp2_with fail
        go_meet
        case rel => exact ⟨rfl, rfl⟩
      · obtain rfl : kk = false := by rw [← hkk'.out]; simp [h2, h4]
        have q2 : (k == 2) = false := by simp [h2]
        have q4 : (k == 4) = false := by simp [h4]
        go_wp2_with fail
        go_meet
        case rel => exact ⟨rfl, rfl⟩
  case rest =>
  obtain ⟨rfl, rfl⟩ := hcut
  go_upto_if 16 with fail
  go_cut [17] from 17 to 21 (fun s17 wx => Lies wx w.heap.size 28 [.int .i64 k, .int .i64 nn, .string ⟨s.toArray⟩, .slice P3 L3 p3, .int .i64 d.k, .int .i64 d.n, .string ⟨d.s.toArray⟩, .slice I7 L7 q7, .slice A1 N c1] ∧ Lies wx (w.heap.size + 1) 28 [.int .i64 0, .int .i64 0, .string ⟨#[]⟩, .slice none 0 0, .int .i64 0, .int .i64 0, .string ⟨#[]⟩, .slice none 0 0, .slice none 0 0] ∧ Below w.heap.size w wx)
  case first =>
    cases kk
    · have hne : ¬ (k = 2 ∨ k = 4) := of_decide_eq_false hkk'.out
      have hnn2 := hnn'.out
      rw [if_neg hne] at hnn2
      subst hnn2
      go_wp2_with fail
      go_meet
      case rel => exact ⟨hL, hLr, hba⟩
    · have hne : k = 2 ∨ k = 4 := of_decide_eq_true hkk'.out
      have hnn2 := hnn'.out
      rw [if_pos hne] at hnn2
      have hC := Lib.hid (hPl.out W2 hba n)
      rw [hnn2] at hC
      clear hnn2 hne
      go_wp2_with (
        go_at_call 65
        refine hC.out.mono ?_
        rintro e w5 ⟨rfl, rfl⟩)
      go_meet
      case rel => exact ⟨hL5, hLr5, hb5⟩
  case rest =>
  obtain ⟨hLc, hLrc, hbc⟩ := hcut
  clear hL hLr hba hL5 hLr5 hb5 x0 x1 f1 hltL hkk' hW2 hZ2
  go_upto_block 0 with fail
  go_cut [5, 6] from 22 to 38 (fun s5 s6 wx => ∃ (P9 : Option Addr) (m9 p9 : Nat), s5 = .slice P9 m9 p9 ∧ Hid (Own wx (w.heap.size + 2) (.slice P9 m9 p9) (ps.map (TM.pl l))) ∧ Lies wx w.heap.size 28 [.int .i64 k, .int .i64 nn, .string ⟨s.toArray⟩, .slice P3 L3 p3, .int .i64 d.k, .int .i64 d.n, .string ⟨d.s.toArray⟩, .slice I7 L7 q7, .slice A1 N c1] ∧ Lies wx (w.heap.size + 1) 28 [.int .i64 0, .int .i64 0, .string ⟨#[]⟩, .slice none 0 0, .int .i64 0, .int .i64 0, .string ⟨#[]⟩, .slice none 0 0, .slice none 0 0] ∧ Below w.heap.size w wx)
  case first =>
    go_wp2_with fail
    go_loopw [5, 6] (fun v5 i wr => ∃ (j : Nat), j ≤ L3 ∧ i = .int .i64 j ∧ Own wr (w.heap.size + 2) v5 ((ps.take j).map (TM.pl l)) ∧ Lies wr w.heap.size 28 [.int .i64 k, .int .i64 nn, .string ⟨s.toArray⟩, .slice P3 L3 p3, .int .i64 d.k, .int .i64 d.n, .string ⟨d.s.toArray⟩, .slice I7 L7 q7, .slice A1 N c1] ∧ Lies wr (w.heap.size + 1) 28 [.int .i64 0, .int .i64 0, .string ⟨#[]⟩, .slice none 0 0, .int .i64 0, .int .i64 0, .string ⟨#[]⟩, .slice none 0 0, .slice none 0 0] ∧ Below w.heap.size w wr) (fun _ i _ => L3 - (intOf i).toNat)
    case atStart => exact ⟨0, by omega, rfl, by simpa using Own.none_ _ _, hLc, hLrc, hbc⟩
    case round =>
      obtain ⟨j, hj, rfl, hO5, hM1, hM2, hb⟩ := hrel
      clear hLc hLrc hbc
      have y3 : wr.cell? ⟨w.heap.size, 3, none⟩ = some (.slice P3 L3 p3) := hM1.cell 3
      obtain ⟨P9, m9, p9, rfl⟩ := slice_of hO5
      by_cases hlt : j < L3
      · have hx : ps[j]? = some (ps[j]'(by rw [hL3'.out]; exact hlt)) := List.getElem?_eq_getElem _
        obtain ⟨x, hxe⟩ : ∃ x, ps[j]'(by rw [hL3'.out]; exact hlt) = x := ⟨_, rfl⟩
        rw [hxe] at hx
        obtain ⟨b, o, rfl, hb0, p0⟩ := (hTp.below hb).cell hx
        have hC := Lib.hid (hPl.out wr hb x)
        have htk : (ps.take (j + 1)).map (TM.pl l) = (ps.take j).map (TM.pl l) ++ [TM.pl l x] := by rw [List.take_add_one, hx]; simp
        have htk' := Lib.hid htk
        have hln : ((ps.take j).map (TM.pl l)).length = j := by rw [List.length_map, List.length_take, hL3'.out]; omega
        have hln' := Lib.hid hln
        generalize TM.pl l x = y at hC htk'
        have hO5' := Lib.hid hO5
        have hl2 := hM2.lt
        have hlo := Lib.hid hO5.lt
        have hpl' := Lib.hid hpl
        clear hx hxe htk hln hO5
        go_wp2_with (first
          | (go_at_call 65
             refine hC.out.mono ?_
             rintro e w5 ⟨rfl, rfl⟩)
          | (at_builtin
             refine wpList_append_ints (B := w.heap.size + 2) (v := .slice P9 m9 p9) (x := .slice (some ⟨wr.heap.size, 0, none⟩) 1 1) (B' := 0) rfl _ _ 22 rfl Tryz.underlying22 rfl rfl (hO5'.out.turns ((Turns.refl (fun _ => False) _).alloc _) (fun _ _ h => h)) (Own.one wr y (Nat.zero_le _)) (by rw [hln'.out]; simp; have := hpl'.out; omega) (by simp; omega) ?_
             intro v9 w9 hown9 hg9 hat9
             have T1 := ((Turns.refl (fun g => (Value.slice P9 m9 p9).ownBlock = some g) wr).alloc (.cells #[.int .i64 y] 3)).then (Turns.appended hg9) (fun _ _ h => h)
             have hM5 := hM1.turns T1 (fun hh => by have := (hlo.out _ hh).1; omega)
             have hM6 := hM2.turns T1 (fun hh => by have := (hlo.out _ hh).1; omega)
             have hb9 : Below w.heap.size w w9 := hb.trans (T1.below hb.size (fun g hh => by have := (hlo.out _ hh).1; omega))
             rw [← htk'.out] at hown9
             have hown9' := Lib.hid hown9
             clear hg9 hat9 T1 hown9))
        go_roundw
        case rel => exact ⟨j + 1, by omega, by go_num, hown9'.out, hM5, hM6, hb9⟩
        case measure => simp [intOf]; omega
      · obtain rfl : j = L3 := by omega
        have hall : ps.take j = ps := by rw [← hL3'.out]; exact List.take_length
        rw [hall] at hO5
        have hp9 : ∀ g, (Value.slice P9 m9 p9).ownBlock = some g → w.heap.size + 2 ≤ g ∧ g < wr.heap.size := hO5.lt
        clear hall hp9
        have hO9 := Lib.hid hO5
        clear hO5
        go_wp2_with fail
        go_meet
        case rel => exact ⟨P9, m9, p9, rfl, hO9, hM1, hM2, hb⟩
  case rest =>
  obtain ⟨P9, m9, p9, rfl, hO9, hM1, hM2, hb⟩ := hcut
  have hO5 := hO9.out
  obtain ⟨w9, hw9e⟩ : ∃ w9, w9 = wc := ⟨_, rfl⟩
  subst hw9e
  have hp9 : ∀ g, (Value.slice P9 m9 p9).ownBlock = some g → w.heap.size + 2 ≤ g ∧ g < w9.heap.size := hO5.lt
  clear hLc hLrc hbc hO9 hPl hL3' hTp hnn'
  have x39 := hM1.cell 3
  have f39 := hM1.free 3
  have hlt9 := hM1.lt
  have hw9 := hM2.lt
  simp only [List.getElem?_cons_succ, List.getElem?_cons_zero] at x39
  have hM10 := hM1.stored 3 (.slice P9 m9 p9)
  have hMr10 := hM2.far (p := ⟨w.heap.size, 3, none⟩) (by simp) (.slice P9 m9 p9)
  simp only [List.set_cons_succ, List.set_cons_zero] at hM10
  have hb10 : Below w.heap.size w (w9.setCell ⟨w.heap.size, 3, none⟩ (.slice P9 m9 p9)) := hb.setCell (p := ⟨w.heap.size, 3, none⟩) (Nat.le_refl _) (.slice P9 m9 p9)
  have hP10' := (hO5.base (B' := 0) (Nat.zero_le _)).turns ((Turns.refl (fun k => k = w.heap.size) w9).setCell (p := ⟨w.heap.size, 3, none⟩) (fun _ => rfl) (.slice P9 m9 p9)) (fun g hg hh => by have := (hp9 g hg).1; omega)
  have hp9' := Lib.hid hp9
  have hP10 := Lib.hid hP10'
  clear hM1 hM2 hb hp9 hO5 hP10'
  go_wp2_with fail
  have hP10' := hP10.out
  clear hP10
  go_loopw [7, 8] (fun v8 i wr => ∃ (j : Nat), j ≤ N ∧ i = .int .i64 j ∧ NewR w9.heap.size wr ((TM.nmt l ks).tk j) v8 ∧ Own wr 0 (.slice P9 m9 p9) (ps.map (TM.pl l)) ∧ Lies wr w.heap.size 28 [.int .i64 k, .int .i64 nn, .string ⟨s.toArray⟩, .slice P9 m9 p9, .int .i64 d.k, .int .i64 d.n, .string ⟨d.s.toArray⟩, .slice I7 L7 q7, .slice A1 N c1] ∧ Lies wr (w.heap.size + 1) 28 [.int .i64 0, .int .i64 0, .string ⟨#[]⟩, .slice none 0 0, .int .i64 0, .int .i64 0, .string ⟨#[]⟩, .slice none 0 0, .slice none 0 0] ∧ Below w.heap.size w wr ∧ w9.heap.size ≤ wr.heap.size) (fun _ i _ => N - (intOf i).toNat)
  case atStart => exact ⟨0, by omega, rfl, by rw [Tl.tk_zero]; exact NewR.nil _ _, hP10', hM10, hMr10, hb10, by simp⟩
  case round =>
    obtain ⟨j, hj, rfl, hI, hP, hM1, hM2, hb, hw99⟩ := hrel
    clear hM10 hMr10 hb10 hP10'
    have y8 : wr.cell? ⟨w.heap.size, 8, none⟩ = some (.slice A1 N c1) := hM1.cell 8
    obtain ⟨A8, c8, rfl⟩ := hI.read
    have htl : ((TM.nmt l ks).tk j).len = j := Tl.tk_len _ j (by rw [TM.nmt_len, hN'.out]; exact hj)
    by_cases hlt : j < N
    · obtain ⟨x, hx⟩ := ks.at_some j (by rw [hN'.out]; exact hlt)
      obtain ⟨b, o, P5, p5, I5, q5, K5, r5, rfl, hb0, c10, c11, c12, c13, c14, c15, c16, c17, c18, hT5⟩ := (hTk.below hb).at_ hx
      have hup := TM.sz_in hx
      have hC := Lib.hid (hR'.out j x hx wr _ l _ _ _ hT5 (hvl.below hb) (TM.sdl_in hsd'.out hx) (by have := hsz'.out; omega))
      have hsn := Tl.tk_snoc _ j _ (TM.nmt_at l hx)
      generalize (TM.nmt l ks).tk j = out at hI hsn htl ⊢
      have hsn' := Lib.hid hsn
      have e8 : Value.slice A8 out.len c8 = .slice A8 j c8 := by rw [htl]
      rw [e8] at hI
      rw [e8]
      have htl' := Lib.hid htl
      have hI' := Lib.hid hI
      have hP' := Lib.hid hP
      have hlt2 := hM2.lt
      have hj' := Lib.hid hN5
      generalize TM.nm1 l x = y at hC hsn'
      unfold tmv at hC
      clear hx hup hsn htl e8 hT5 hI hP
      go_wp2_with (first
        | (go_at_call 43
           refine hC.out.mono ?_
           rintro e w3 ⟨v1, v2, v3, rfl, hNw, hb3⟩
           obtain ⟨P6, m6, p6, rfl⟩ : ∃ A m c, v1 = .slice A m c := by obtain ⟨A, c, e⟩ := hNw.tmin.p.read; exact ⟨_, _, _, e⟩
           obtain ⟨I6, l6, q6, rfl⟩ : ∃ A m c, v2 = .slice A m c := by obtain ⟨A, c, e⟩ := hNw.tmin.d.read; exact ⟨_, _, _, e⟩
           obtain ⟨K6, n6, r6, rfl⟩ : ∃ A m c, v3 = .slice A m c := by obtain ⟨A, c, e⟩ := hNw.tmin.k.read; exact ⟨_, _, _, e⟩
           have hb3' := Lib.hid hb3
           have hNw' := Lib.hid hNw
           have hM3 := (hM1.below hb3 hM1.lt).alloc (.cells #[.int .i64 y.k, .int .i64 y.n, .string ⟨y.s.toArray⟩, .slice P6 m6 p6, .int .i64 y.d.k, .int .i64 y.d.n, .string ⟨y.d.s.toArray⟩, .slice I6 l6 q6, .slice K6 n6 r6] 28)
           have hM4 := (hM2.below hb3 hM2.lt).alloc (.cells #[.int .i64 y.k, .int .i64 y.n, .string ⟨y.s.toArray⟩, .slice P6 m6 p6, .int .i64 y.d.k, .int .i64 y.d.n, .string ⟨y.d.s.toArray⟩, .slice I6 l6 q6, .slice K6 n6 r6] 28)
           have T0 := Lib.hid ((Turns.of_below hb3 (fun _ => False)).alloc (.cells #[.int .i64 y.k, .int .i64 y.n, .string ⟨y.s.toArray⟩, .slice P6 m6 p6, .int .i64 y.d.k, .int .i64 y.d.n, .string ⟨y.d.s.toArray⟩, .slice I6 l6 q6, .slice K6 n6 r6] 28))
           clear hb3 hNw c10 c11 c12 c13 c14 c15 c16 c17 c18 y8)
        | (at_builtin
           refine wpList_append_new (v8 := .slice A8 j c8) rfl _ _ rfl rfl rfl hI'.out hb3'.out hw99 hNw'.out (by rw [htl'.out]; omega) ?_
           intro v9 w11 hR9 hT9
           have hlo := hI'.out.lt
           have hM5 := hM3.turns hT9 (fun hh => by have := (hlo _ hh).1; omega)
           have hM6 := hM4.turns hT9 (fun hh => by have := (hlo _ hh).1; omega)
           have T01 := (T0.out.mono (Y := fun g => (Value.slice A8 j c8).ownBlock = some g) (fun _ _ h => h.elim)).then hT9 (fun _ _ h => h)
           have hP9 := hP'.out.turns T01 (fun g hg hh => by have := (hlo _ hh).1; have := (hp9'.out g hg).2; omega)
           have hb11 : Below w.heap.size w w11 := hb.trans (T01.below hb.size (fun g hh => by have := (hlo _ hh).1; omega))
           have hw11 : w9.heap.size ≤ w11.heap.size := Nat.le_trans hw99 T01.size
           clear hT9 T01 hlo hM3 hM4))
      go_roundw
      case rel => exact ⟨j + 1, by omega, by go_num, by rw [hsn'.out]; exact hR9, hP9, hM5, hM6, hb11, hw11⟩
      case measure => simp [intOf]; omega
    · obtain rfl : j = N := by omega
      have hall : (TM.nmt l ks).tk j = TM.nmt l ks := by rw [← hN'.out, ← TM.nmt_len l ks]; exact Tl.tk_all _
      have e8 : Value.slice A8 ((TM.nmt l ks).tk j).len c8 = .slice A8 j c8 := by rw [htl]
      rw [e8, hall] at hI
      rw [e8]
      have hM9 := hM1.stored 8 (.slice A8 j c8)
      have hMr9 := hM2.far (p := ⟨w.heap.size, 8, none⟩) (by simp) (.slice A8 j c8)
      simp only [List.set_cons_succ, List.set_cons_zero] at hM9
      have hb9 : Below w.heap.size w (wr.setCell ⟨w.heap.size, 8, none⟩ (.slice A8 j c8)) := hb.setCell (p := ⟨w.heap.size, 8, none⟩) (Nat.le_refl _) _
      have f8 := hM1.free 8
      have q4 := hM9.cell 4
      have q5 := hM9.cell 5
      have q6 := hM9.cell 6
      have q7 := hM9.cell 7
      have hlt1 := hM1.lt
      simp only [List.getElem?_cons_succ, List.getElem?_cons_zero] at q4 q5 q6 q7
      have hI' := Lib.hid hI
      have hP' := Lib.hid hP
      have hC := Lib.hid (hO.out _ hb9)
      have hsk : (wr.setCell ⟨w.heap.size, 8, none⟩ (.slice A8 j c8)).heap.size = wr.heap.size := by simp
      have hsk' := Lib.hid hsk
      clear hall htl e8 hI hP hsk
      go_wp2_with (
        go_at_call 28
        refine hC.out.mono ?_
        rintro e w5 ⟨v5, rfl, hO5, hb5⟩
        obtain ⟨I8, L8, q8, rfl⟩ : ∃ A m c, v5 = .slice A m c := by obtain ⟨A, c, e⟩ := hO5.read; exact ⟨_, _, _, e⟩
        have hM5 := hM9.below hb5 hM9.lt
        have hMr5 := hMr9.below hb5 hMr9.lt
        have x4 := hM5.cell 4
        have x5 := hM5.cell 5
        have x6 := hM5.cell 6
        have x7 := hM5.cell 7
        have f4 := hM5.free 4
        have f5 := hM5.free 5
        have f6 := hM5.free 6
        have f7 := hM5.free 7
        have hlt5 := hM5.lt
        have hM6 := (((hM5.stored 4 (.int .i64 d.k)).stored 5 (.int .i64 d.n)).stored 6 (.string ⟨d.s.toArray⟩)).stored 7 (.slice I8 L8 q8)
        have hMr7 := (((hMr5.far (p := ⟨w.heap.size, 4, none⟩) (by simp) (.int .i64 d.k)).far (p := ⟨w.heap.size, 5, none⟩) (by simp) (.int .i64 d.n)).far (p := ⟨w.heap.size, 6, none⟩) (by simp) (.string ⟨d.s.toArray⟩)).far (p := ⟨w.heap.size, 7, none⟩) (by simp) (.slice I8 L8 q8)
        simp only [List.getElem?_cons_succ, List.getElem?_cons_zero, List.set_cons_succ, List.set_cons_zero] at x4 x5 x6 x7 hM6
        have y0 := hM6.cell 0
        have y1 := hM6.cell 1
        have y2 := hM6.cell 2
        have y3 := hM6.cell 3
        have y4 := hM6.cell 4
        have y5 := hM6.cell 5
        have y6 := hM6.cell 6
        have y7 := hM6.cell 7
        have y8 := hM6.cell 8
        have cz0 := hMr7.cell 0
        have fz0 := hMr7.free 0
        have cz1 := hMr7.cell 1
        have fz1 := hMr7.free 1
        have cz2 := hMr7.cell 2
        have fz2 := hMr7.free 2
        have cz3 := hMr7.cell 3
        have fz3 := hMr7.free 3
        have cz4 := hMr7.cell 4
        have fz4 := hMr7.free 4
        have cz5 := hMr7.cell 5
        have fz5 := hMr7.free 5
        have cz6 := hMr7.cell 6
        have fz6 := hMr7.free 6
        have cz7 := hMr7.cell 7
        have fz7 := hMr7.free 7
        have cz8 := hMr7.cell 8
        have fz8 := hMr7.free 8
        have hltr := hMr7.lt
        simp only [List.getElem?_cons_succ, List.getElem?_cons_zero] at y0 y1 y2 y3 y4 y5 y6 y7 y8 cz0 cz1 cz2 cz3 cz4 cz5 cz6 cz7 cz8
        have hO5' := Lib.hid hO5
        have hb5' := Lib.hid hb5
        clear hO5 hb5)
      have T4 : Turns (fun k => k = w.heap.size) w5 _ := ((((Turns.refl (fun k => k = w.heap.size) w5).setCell (p := ⟨w.heap.size, 4, none⟩) (fun _ => rfl) (.int .i64 d.k)).setCell (p := ⟨w.heap.size, 5, none⟩) (fun _ => rfl) (.int .i64 d.n)).setCell (p := ⟨w.heap.size, 6, none⟩) (fun _ => rfl) (.string ⟨d.s.toArray⟩)).setCell (p := ⟨w.heap.size, 7, none⟩) (fun _ => rfl) (.slice I8 L8 q8)
      have Tz := nine_turns (T4.mono (Y := fun g => g = w.heap.size ∨ g = w.heap.size + 1) (fun _ _ h => .inl h)) (g := w.heap.size + 1) (fun _ => .inr rfl) 0 (.int .i64 k) (.int .i64 nn) (.string ⟨s.toArray⟩) (.slice P9 m9 p9) (.int .i64 d.k) (.int .i64 d.n) (.string ⟨d.s.toArray⟩) (.slice I8 L8 q8) (.slice A8 j c8)
      have Tr := (((Turns.refl (fun k => k = w.heap.size) wr).setCell (p := ⟨w.heap.size, 8, none⟩) (fun _ => rfl) (.slice A8 j c8)).mono (Y := fun g => g = w.heap.size ∨ g = w.heap.size + 1) (fun _ _ h => .inl h)).then ((Turns.of_below hb5'.out (fun g => g = w.heap.size ∨ g = w.heap.size + 1))) (fun _ _ h => h) |>.then Tz (fun _ _ h => h)
      have hMz := nine_res hMr7 (w.heap.size + 1) rfl (.int .i64 k) (.int .i64 nn) (.string ⟨s.toArray⟩) (.slice P9 m9 p9) (.int .i64 d.k) (.int .i64 d.n) (.string ⟨d.s.toArray⟩) (.slice I8 L8 q8) (.slice A8 j c8)
      have rz0 := hMz.cell 0
      have rz1 := hMz.cell 1
      have rz2 := hMz.cell 2
      have rz3 := hMz.cell 3
      have rz4 := hMz.cell 4
      have rz5 := hMz.cell 5
      have rz6 := hMz.cell 6
      have rz7 := hMz.cell 7
      have rz8 := hMz.cell 8
      unfold nine at rz0 rz1 rz2 rz3 rz4 rz5 rz6 rz7 rz8
      simp only [List.getElem?_cons_succ, List.getElem?_cons_zero, Nat.zero_add] at rz0 rz1 rz2 rz3 rz4 rz5 rz6 rz7 rz8
      refine bodyPost_ret (v := .agg #[.int .i64 k, .int .i64 nn, .string ⟨s.toArray⟩, .slice P9 m9 p9, .int .i64 d.k, .int .i64 d.n, .string ⟨d.s.toArray⟩, .slice I8 L8 q8, .slice A8 j c8]) (by simp [results, Tryz.results43, go_sem, rz0, rz1, rz2, rz3, rz4, rz5, rz6, rz7, rz8]) rfl ⟨.slice P9 m9 p9, .slice I8 L8 q8, .slice A8 j c8, rfl, ?_, ?_⟩
      · refine NewT.of (M := w9.heap.size) (hP'.out.turns Tr (fun g hg hh => by have := (hp9'.out g hg).1; rcases hh with hh | hh <;> omega)) (fun g hg => by have := hp9'.out g hg; omega) (by omega) hw99 hI'.out Tr (fun g hg => by rcases hg with hg | hg <;> omega) (D0 := fun g => wr.heap.size ≤ g) ?_ (fun _ h => h)
        exact (Dat.ind (Dat.turns hO5'.out Tz (fun g _ hs hh => by have h9 := hsk'.out; rcases hh with hh | hh <;> omega))).mono (fun g _ hs => by have h9 := hsk'.out; omega)
      · exact hb.trans (Tr.below hb.size (fun g hg => by rcases hg with hg | hg <;> omega))
theorem numbered_any (t : Tm) : NmOk t := Tl.all_one NmOk nm_step t
end Go.Proofs.YthbgopmpdkefkaaGreatDoor

/- Package term: are two terms the same, all through? The library's Equal over ints, EqualFunc over terms. -/
namespace Go.Proofs.YthbgopmpdkefkaaGreatDoor
open Go.ChangeShapes Go.WideShapes Go.ChangeAt Go.RowKit Go.Deep
open TM (Tl Tm)

theorem equalInts_any (a b : List Int) (w : World) (u v : Value) (h1 : PIn w u a) (h2 : PIn w v b) : Calls Tryz.prog 62 #[u, v] w (BoolIff (a = b) w) := by
  obtain ⟨A1, c1, e1, hl1, b1, o1, k1, q1⟩ := h1
  obtain ⟨A2, c2, e2, hl2, b2, o2, k2, q2⟩ := h2
  subst e1 e2
  have wd : ∀ q, Went w (w.drewN q) := fun q => below_drewN (Below.refl _ _) q
  by_cases hne : a.length = b.length
  · by_cases h0 : a.length = 0
    · have ha : a = [] := List.eq_nil_of_length_eq_zero h0
      have hb : b = [] := List.eq_nil_of_length_eq_zero (by omega)
      subst ha hb
      refine (Tryz.slices_Equal_int_empty A1 A2 c1 0 c2 w (by omega)).mono ?_
      rintro e w' ⟨rfl, rfl⟩
      exact ⟨_, rfl, by simp, Below.refl _ _⟩
    · obtain ⟨hA1, _⟩ := k1 (by omega)
      obtain ⟨hA2, _⟩ := k2 (by omega)
      subst hA1 hA2
      have g : ∀ (l : List Int) (j : Nat), j < l.length → l[j]? = some (l.getD j 0) := fun l j hj => by
        rw [List.getD_eq_getElem?_getD, List.getElem?_eq_getElem hj]; rfl
      refine (Tryz.slices_Equal_int b1 o1 a.length c1 b2 o2 b.length c2 a b w (Nat.le_refl _) (Nat.le_refl _) hl1 hl2 (fun j hj => q1 j _ (g a j hj)) (fun j hj => q2 j _ (g b j hj))).mono ?_
      rintro e w' ⟨rfl, q, rfl⟩
      exact ⟨_, rfl, by rw [List.take_length, List.take_length, beq_iff_eq], wd q⟩
  · refine (Tryz.slices_Equal_int_lens A1 A2 a.length c1 b.length c2 w hne).mono ?_
    rintro e w' ⟨rfl, rfl⟩
    refine ⟨_, rfl, ?_, Below.refl _ _⟩
    constructor
    · intro h; simp at h
    · intro h; exact absurd (by rw [h]) hne
theorem TM.dr_eq {a b : Tl} {j : Nat} {x y : Tm} (hx : a.at_ j = some x) (hy : b.at_ j = some y) : Tl.dr a j = Tl.dr b j ↔ (x = y ∧ Tl.dr a (j + 1) = Tl.dr b (j + 1)) := by
  rw [Tl.dr_at a j x hx, Tl.dr_at b j y hy]
  obtain ⟨k, n, s, ps, d, is⟩ := x
  obtain ⟨k2, n2, s2, ps2, d2, is2⟩ := y
  simp only [Tl.cons.injEq, Tm.mk.injEq]
  constructor
  · rintro ⟨h1, h2, h3, h4, h5, h6, h7⟩; exact ⟨⟨h1, h2, h3, h4, h5, h6⟩, h7⟩
  · rintro ⟨⟨h1, h2, h3, h4, h5, h6⟩, h7⟩; exact ⟨h1, h2, h3, h4, h5, h6, h7⟩
def StOk (x : Tm) : Prop := ∀ (y : Tm) (w : World) (u1 u2 u3 v1 v2 v3 : Value), TmIn w x u1 u2 u3 → TmIn w y v1 v2 v3 → Calls Tryz.prog 42 #[tmv x u1 u2 u3, tmv y v1 v2 v3] w (BoolIff (x = y) w)
set_option maxRecDepth 100000 in
set_option maxHeartbeats 4000000 in
theorem equalTerms_any (is ys : Tl) (hP : ∀ i x, is.at_ i = some x → StOk x) (w : World) (u v : Value) (h1 : TIn w u is) (h2 : TIn w v ys) :
    Calls Tryz.prog 64 #[u, v, .func (.func 42) #[] #[]] w (BoolIff (is = ys) w) := by
  obtain ⟨A1, c1, rfl⟩ := h1.read
  obtain ⟨A2, c2, rfl⟩ := h2.read
  have hl1 := h1.len
  have hl2 := h2.len
  obtain ⟨N, hN⟩ : ∃ N, is.len = N := ⟨_, rfl⟩
  obtain ⟨M, hM⟩ : ∃ M, ys.len = M := ⟨_, rfl⟩
  rw [hN] at h1 hl1 ⊢
  rw [hM] at h2 hl2 ⊢
  have hN' := Lib.hid hN
  have hM' := Lib.hid hM
  have hP' := Lib.hid hP
  clear hN hM hP
  by_cases hne : N = M
  · subst hne
    go_enter Tryz.func64, Tryz.ntmps64
    go_wp2_with fail
    go_loopw [17] (fun i wr => ∃ (j : Nat), j ≤ N ∧ i = .int .i64 j ∧ Hid (is = ys ↔ Tl.dr is j = Tl.dr ys j) ∧ Below w.heap.size w wr) (fun i _ => N - (intOf i).toNat)
    case atStart => exact ⟨0, Nat.zero_le _, rfl, Lib.hid (by rw [Tl.dr_zero, Tl.dr_zero]), Below.refl _ w⟩
    case round =>
      obtain ⟨j, hj, rfl, hd, hb⟩ := hrel
      by_cases hlt : j < N
      · obtain ⟨x, hx⟩ := is.at_some j (by rw [hN'.out]; exact hlt)
        obtain ⟨y, hy⟩ := ys.at_some j (by rw [hM'.out]; exact hlt)
        obtain ⟨g1, o1, P1, r1, I1, i1, B1, b1, rfl, hg1, p0, p1, p2, p3, p4, p5, p6, p7, p8, hd1⟩ := (h1.below hb).at_ hx
        obtain ⟨g2, o2, P2, r2, I2, i2, B2, b2, rfl, hg2, q0, q1, q2, q3, q4, q5, q6, q7, q8, hd2⟩ := (h2.below hb).at_ hy
        have hdr := TM.dr_eq hx hy
        have hba : Below wr.heap.size wr ((wr.alloc (.cells #[.int .i64 x.k, .int .i64 x.n, .string ⟨x.s.toArray⟩, .slice P1 x.ps.length r1, .int .i64 x.d.k, .int .i64 x.d.n, .string ⟨x.d.s.toArray⟩, .slice I1 x.d.is.len i1, .slice B1 x.ks.len b1] 28)).alloc (.cells #[.int .i64 y.k, .int .i64 y.n, .string ⟨y.s.toArray⟩, .slice P2 y.ps.length r2, .int .i64 y.d.k, .int .i64 y.d.n, .string ⟨y.d.s.toArray⟩, .slice I2 y.d.is.len i2, .slice B2 y.ks.len b2] 28)) := ((Below.refl _ wr).alloc (Nat.le_refl _) _).alloc (by simp) _
        have hC := Lib.hid (hP'.out j x hx y _ _ _ _ _ _ _ (hd1.below hba) (hd2.below hba))
        unfold tmv at hC
        have hdr' := Lib.hid hdr
        have hb2 := Lib.hid (hb.trans (hba.mono hb.size))
        have ca : ∀ o, (wr.alloc (.cells #[.int .i64 x.k, .int .i64 x.n, .string ⟨x.s.toArray⟩, .slice P1 x.ps.length r1, .int .i64 x.d.k, .int .i64 x.d.n, .string ⟨x.d.s.toArray⟩, .slice I1 x.d.is.len i1, .slice B1 x.ks.len b1] 28)).cell? ⟨g2, o, none⟩ = wr.cell? ⟨g2, o, none⟩ := fun o => ((Below.refl _ wr).alloc (Nat.le_refl _) _).cell (p := ⟨g2, o, none⟩) hg2
        rw [← ca] at q0 q1 q2 q3 q4 q5 q6 q7 q8
        clear hx hy hd1 hd2 hdr hba ca
        go_wp2_with (
          go_at_call 42
          refine hC.out.mono ?_
          rintro e w5 ⟨r, rfl, hr, hb5⟩
          have hr' := Lib.hid hr
          have hb6 := hb2.out.trans (Below.mono hb5 hb2.out.size)
          clear hr hb5)
        · go_ret
          refine ⟨false, rfl, ?_, hb6⟩
          rw [hd.out, hdr'.out, ← hr'.out]
          simp_all
        · go_roundw
          case rel => exact ⟨j + 1, by omega, by go_num, Lib.hid (by rw [hd.out, hdr'.out, ← hr'.out]; simp_all), hb6⟩
          case measure => simp [intOf]; omega
      · obtain rfl : j = N := by omega
        go_wp2_with fail
        go_ret
        refine ⟨true, rfl, ?_, hb⟩
        rw [hd.out, Tl.dr_end is j (by rw [hN'.out]; exact Nat.le_refl _), Tl.dr_end ys j (by rw [hM'.out]; exact Nat.le_refl _)]
        simp
  · go_enter Tryz.func64, Tryz.ntmps64
    go_wp2_with fail
    go_ret
    refine ⟨false, rfl, ?_, Below.refl _ w⟩
    constructor
    · intro h; simp at h
    · intro h; exact absurd (by rw [← hN'.out, ← hM'.out, h]) hne
set_option maxRecDepth 100000 in
set_option maxHeartbeats 8000000 in
theorem st_step (k n : Int) (s : List UInt8) (ps : List Int) (d : RM.Dm) (ks : Tl) (hP : ∀ i x, ks.at_ i = some x → StOk x) : StOk ⟨k, n, s, ps, d, ks⟩ := by
  intro y w u1 u2 u3 v1 v2 v3 h1 h2
  obtain ⟨k2, n2, s2, ps2, d2, ks2⟩ := y
  have hQ := Lib.hid (fun (w' : World) (hb : Below w.heap.size w w') => equalInts_any ps ps2 w' _ _ (h1.p.below hb) (h2.p.below hb))
  have hD := Lib.hid (fun (w' : World) (hb : Below w.heap.size w w') => sameData_any d d2 w' _ _ (h1.d.below hb) (h2.d.below hb))
  have hE := Lib.hid (fun (w' : World) (hb : Below w.heap.size w w') => equalTerms_any ks ks2 hP w' _ _ (h1.k.below hb) (h2.k.below hb))
  obtain ⟨P1, L1, r1, rfl⟩ : ∃ A m c, u1 = .slice A m c := by obtain ⟨A, c, e⟩ := h1.p.read; exact ⟨_, _, _, e⟩
  obtain ⟨P2, L2, r2, rfl⟩ : ∃ A m c, v1 = .slice A m c := by obtain ⟨A, c, e⟩ := h2.p.read; exact ⟨_, _, _, e⟩
  obtain ⟨I1, J1, i1, rfl⟩ : ∃ A m c, u2 = .slice A m c := by obtain ⟨A, c, e⟩ := h1.d.read; exact ⟨_, _, _, e⟩
  obtain ⟨I2, J2, i2, rfl⟩ : ∃ A m c, v2 = .slice A m c := by obtain ⟨A, c, e⟩ := h2.d.read; exact ⟨_, _, _, e⟩
  obtain ⟨A1, N, c1, rfl⟩ : ∃ A m c, u3 = .slice A m c := by obtain ⟨A, c, e⟩ := h1.k.read; exact ⟨_, _, _, e⟩
  obtain ⟨A2, M, c2, rfl⟩ : ∃ A m c, v3 = .slice A m c := by obtain ⟨A, c, e⟩ := h2.k.read; exact ⟨_, _, _, e⟩
  unfold tmv
  unfold dtv at hD
  simp only at hD ⊢
  have hL1 := (Lies.made w 28 #[.int .i64 k, .int .i64 n, .string ⟨s.toArray⟩, .slice P1 L1 r1, .int .i64 d.k, .int .i64 d.n, .string ⟨d.s.toArray⟩, .slice I1 J1 i1, .slice A1 N c1]).alloc (.cells #[.int .i64 k2, .int .i64 n2, .string ⟨s2.toArray⟩, .slice P2 L2 r2, .int .i64 d2.k, .int .i64 d2.n, .string ⟨d2.s.toArray⟩, .slice I2 J2 i2, .slice A2 M c2] 28)
  have hz1 : (w.alloc (.cells #[.int .i64 k, .int .i64 n, .string ⟨s.toArray⟩, .slice P1 L1 r1, .int .i64 d.k, .int .i64 d.n, .string ⟨d.s.toArray⟩, .slice I1 J1 i1, .slice A1 N c1] 28)).heap.size = w.heap.size + 1 := by simp
  have hL2 := Lies.made (w.alloc (.cells #[.int .i64 k, .int .i64 n, .string ⟨s.toArray⟩, .slice P1 L1 r1, .int .i64 d.k, .int .i64 d.n, .string ⟨d.s.toArray⟩, .slice I1 J1 i1, .slice A1 N c1] 28)) 28 #[.int .i64 k2, .int .i64 n2, .string ⟨s2.toArray⟩, .slice P2 L2 r2, .int .i64 d2.k, .int .i64 d2.n, .string ⟨d2.s.toArray⟩, .slice I2 J2 i2, .slice A2 M c2]
  rw [hz1] at hL2
  have hba : Below w.heap.size w ((w.alloc (.cells #[.int .i64 k, .int .i64 n, .string ⟨s.toArray⟩, .slice P1 L1 r1, .int .i64 d.k, .int .i64 d.n, .string ⟨d.s.toArray⟩, .slice I1 J1 i1, .slice A1 N c1] 28)).alloc (.cells #[.int .i64 k2, .int .i64 n2, .string ⟨s2.toArray⟩, .slice P2 L2 r2, .int .i64 d2.k, .int .i64 d2.n, .string ⟨d2.s.toArray⟩, .slice I2 J2 i2, .slice A2 M c2] 28)) := ((Below.refl _ w).alloc (Nat.le_refl _) _).alloc (by simp) _
  have hiff : ((⟨k, n, s, ps, d, ks⟩ : Tm) = ⟨k2, n2, s2, ps2, d2, ks2⟩) ↔ (k = k2 ∧ n = n2 ∧ s = s2 ∧ ps = ps2 ∧ d = d2 ∧ ks = ks2) := by simp only [Tm.mk.injEq]
  have hiff' := Lib.hid hiff
  clear hP h1 h2 hiff hz1
  by_cases hk : k = k2
  · by_cases hn : n = n2
    · by_cases hs : s = s2
      · subst hk hn hs
        go_enter Tryz.func42, Tryz.ntmps42
        go_wp2_with (first
          | (go_at_call 62
             refine (hQ.out _ hba).mono ?_
             rintro e w5 ⟨rp, rfl, hrp, hb5⟩
             have hrp' := Lib.hid hrp
             have hb6 := hba.trans (Below.mono hb5 hba.size)
             have hM1 := hL1.below hb5 hL1.lt
             have hM2 := hL2.below hb5 hL2.lt
             have x0 := hM1.cell 0
             have x1 := hM1.cell 1
             have x2 := hM1.cell 2
             have x3 := hM1.cell 3
             have x4 := hM1.cell 4
             have x5 := hM1.cell 5
             have x6 := hM1.cell 6
             have x7 := hM1.cell 7
             have x8 := hM1.cell 8
             have y0 := hM2.cell 0
             have y1 := hM2.cell 1
             have y2 := hM2.cell 2
             have y3 := hM2.cell 3
             have y4 := hM2.cell 4
             have y5 := hM2.cell 5
             have y6 := hM2.cell 6
             have y7 := hM2.cell 7
             have y8 := hM2.cell 8
             simp only [List.getElem?_cons_succ, List.getElem?_cons_zero] at x0 x1 x2 x3 x4 x5 x6 x7 x8 y0 y1 y2 y3 y4 y5 y6 y7 y8
             clear hrp hb5)
          | (go_at_call 63
             refine (hD.out _ hb6).mono ?_
             rintro e w7 ⟨rd, rfl, hrd, hb7⟩
             have hrd' := Lib.hid hrd
             have hb8 := hb6.trans (Below.mono hb7 hb6.size)
             have hM3 := hM1.below hb7 hM1.lt
             have hM4 := hM2.below hb7 hM2.lt
             have z8 := hM3.cell 8
             have t8 := hM4.cell 8
             simp only [List.getElem?_cons_succ, List.getElem?_cons_zero] at z8 t8
             clear hrd hb7)
          | (go_at_call 64
             refine (hE.out _ hb8).mono ?_
             rintro e w9 ⟨rk, rfl, hrk, hb9⟩
             have hrk' := Lib.hid hrk
             have hb10 := hb8.trans (Below.mono hb9 hb8.size)
             clear hrk hb9))
        all_goals go_ret
        all_goals
          first
            | exact ⟨_, rfl, by rw [hiff'.out, ← hrp'.out, ← hrd'.out, ← hrk'.out]; simp_all, hb10⟩
            | exact ⟨_, rfl, by rw [hiff'.out, ← hrp'.out, ← hrd'.out]; simp_all, hb8⟩
            | exact ⟨_, rfl, by rw [hiff'.out, ← hrp'.out]; simp_all, hb6⟩
      · obtain ⟨e1, e2, e3⟩ := str_ne hs
        subst hk hn
        have hs' := Lib.hid hs
        clear hs
        go_enter Tryz.func42, Tryz.ntmps42
        go_wp2_with fail
        go_ret
        exact ⟨false, rfl, by first | (simp; done) | (rw [hiff'.out]; simp [hs'.out]), hba⟩
    · subst hk
      have hn' := Lib.hid hn
      go_enter Tryz.func42, Tryz.ntmps42
      go_wp2_with fail
      go_ret
      exact ⟨false, rfl, by first | (simp; done) | (rw [hiff'.out]; simp [hn'.out]), hba⟩
  · have hk' := Lib.hid hk
    go_enter Tryz.func42, Tryz.ntmps42
    go_wp2_with fail
    go_ret
    exact ⟨false, rfl, by first | (simp; done) | (rw [hiff'.out]; simp [hk'.out]), hba⟩
theorem same_any' (x : Tm) : StOk x := Tl.all_one StOk st_step x
end Go.Proofs.YthbgopmpdkefkaaGreatDoor
