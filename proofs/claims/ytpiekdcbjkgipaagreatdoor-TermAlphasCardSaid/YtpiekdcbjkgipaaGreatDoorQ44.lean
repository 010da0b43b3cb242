/- The law's shifted: a term whose locals are counted down, in its place. -/
import Derived.Test.YtpiekdcbjkgipaaGreatDoorQ30
import Derived.Test.YtpiekdcbjkgipaaGreatDoorQ38
import Derived.Test.YtpiekdcbjkgipaaGreatDoorQ40
import Derived.Deep.Cut
import Derived.Deep.CutRange
import Derived.Deep.CutBlock
import Derived.Test.YtpiekdcbjkgipaaGreatDoorQ31
import Derived.Test.YtpiekdcbjkgipaaGreatDoorQ33
import Derived.Test.YtpiekdcbjkgipaaGreatDoorQ39
namespace Go.Proofs.YtpiekdcbjkgipaaGreatDoor
open Go.ChangeShapes Go.WideShapes Go.ChangeAt Go.RowKit Go.Deep
open TM (Tl Tm)

namespace TM
/-- the locals' numbers lie within bounds -/
def shb : Tl → Prop
  | .nil => True
  | .cons k n _ ps _ ks r => ((k = 2 ∨ k = 4) → 0 ≤ n ∧ n ≤ 2199023255552) ∧ (∀ p ∈ ps, 0 ≤ p ∧ p ≤ 2199023255552) ∧ shb ks ∧ shb r
def sh1 (t : Tm) : Prop := ((t.k = 2 ∨ t.k = 4) → 0 ≤ t.n ∧ t.n ≤ 2199023255552) ∧ (∀ p ∈ t.ps, 0 ≤ p ∧ p ≤ 2199023255552) ∧ shb t.ks
theorem shb_in : ∀ {d : Tl} {i : Nat} {x : Tm}, shb d → d.at_ i = some x → sh1 x
  | .nil, i, x, _, h => by simp [Tl.at_] at h
  | .cons k n s ps d ks r, 0, x, ⟨h1, h2, h3, _⟩, h => by
    simp only [Tl.at_, Option.some.injEq] at h
    subst h
    exact ⟨h1, h2, h3⟩
  | .cons k n s ps d ks r, i + 1, x, ⟨_, _, _, h4⟩, h => shb_in h4 (show r.at_ i = some x from h)
end TM
end Go.Proofs.YtpiekdcbjkgipaaGreatDoor

/- The plain mathematics of the law TermSame, whatever lies in memory: bounds of a program's locals; what Alpha answers is small, and its numbers are bounded. -/
namespace Go.Proofs.YtpiekdcbjkgipaaGreatDoor
open Go.RowKit
open TM (Tl Tm)

theorem TM.shb_of {m : Int} (hm : m ≤ 2199023255552) : ∀ {bd : List Int} {d : Tl}, TM.rtl bd d = true → (∀ a ∈ bd, 1 ≤ a ∧ a ≤ m) → (∀ a ∈ TM.prs d, 1 ≤ a ∧ a ≤ m) → TM.shb d
  | _, .nil, _, _, _ => trivial
  | bd, .cons k n s ps d ks r, h, hb, hp => by
    simp only [TM.rtl, Bool.and_eq_true] at h
    simp only [TM.prs, List.mem_append] at hp
    refine ⟨fun hk => ?_, fun p hpp => ?_, TM.shb_of hm h.1.2 (fun a ha => ?_) (fun a ha => hp a (.inr (.inl ha))), TM.shb_of hm h.2 hb (fun a ha => hp a (.inr (.inr ha)))⟩
    · have h2 := TM.fit_local (t := ⟨k, n, s, ps, d, ks⟩) h.1.1 hk
      have := hb n (by simpa using h2)
      omega
    · have := hp p (.inl hpp); omega
    · rcases List.mem_append.1 ha with ha | ha
      · exact hb a ha
      · exact hp a (.inl ha)
theorem TM.sh1_of {t : Tm} {m : Int} (h : TM.okt t = true) (hm : m ≤ 2199023255552) (hp : ∀ p ∈ t.ps ++ TM.prs t.ks, p ≤ m) : TM.sh1 t := by
  obtain ⟨_, _, h3, h4, _⟩ := TM.okt_parts h
  rw [TM.ok1, Bool.and_eq_true] at h4
  rw [TM.frs_iff] at h3
  have hq : ∀ p ∈ t.ps ++ TM.prs t.ks, 1 ≤ p ∧ p ≤ m := fun p hpp => ⟨h3.1 p hpp, hp p hpp⟩
  refine ⟨fun hk => ?_, fun p hpp => ?_, TM.shb_of hm h4.2 (fun a ha => ?_) (fun a ha => hq a (List.mem_append.2 (.inr ha)))⟩
  · have := TM.fit_local h4.1 hk
    simp at this
  · have := hq p (List.mem_append.2 (.inl hpp)); omega
  · rw [List.nil_append] at ha
    exact hq a (List.mem_append.2 (.inl ha))
theorem TM.sdl_nm (l : List Int) : ∀ d : Tl, TM.sdl (TM.nmt l d) = TM.sdl d
  | .nil => rfl
  | .cons k n s ps d ks r => by simp only [TM.nmt, TM.sdl, List.length_map]; rw [TM.sdl_nm l ks, TM.sdl_nm l r]
theorem TM.sd1_alpha (t : Tm) : TM.sd1 (TM.alpha t) = TM.sd1 t := by
  show (SM.small t.d && decide ((t.ps.map _).length ≤ 200) && TM.sdl (TM.nmt _ t.ks)) = _
  rw [TM.sdl_nm, List.length_map]; rfl
theorem TBd.nm {l : List Int} (hl : l.length ≤ 1000000) : ∀ {d : Tl}, TBd d → TBd (TM.nmt l d)
  | .nil, _ => trivial
  | .cons k n s ps d ks r, ⟨h1, h2, h3, h4, h5, h6, h7, h8⟩ => by
    refine ⟨h1, ?_, ?_, h4, h5, h6, TBd.nm hl h7, TBd.nm hl h8⟩
    · split
      · exact TM.pl_b64 hl _
      · exact h2
    · intro p hp
      simp only [List.mem_map] at hp
      obtain ⟨a, _, rfl⟩ := hp
      exact TM.pl_b64 hl a
theorem TmBd.alpha {t : Tm} (h : TmBd t) (hl : (t.ps ++ TM.prs t.ks).length ≤ 1000000) : TmBd (TM.alpha t) := by
  refine ⟨h.k, ?_, ?_, h.dk, h.dn, h.d, TBd.nm hl h.ks⟩
  · show b64 (if t.k = 2 ∨ t.k = 4 then TM.pl _ t.n else t.n)
    split
    · exact TM.pl_b64 hl _
    · exact h.n
  · intro p hp
    have hp' : p ∈ t.ps.map (TM.pl (t.ps ++ TM.prs t.ks)) := hp
    simp only [List.mem_map] at hp'
    obtain ⟨a, _, rfl⟩ := hp'
    exact TM.pl_b64 hl a
end Go.Proofs.YtpiekdcbjkgipaaGreatDoor

/- The reference of layer 10: numbered, a term whose locals are their places. -/
namespace Go.Proofs.YtpiekdcbjkgipaaGreatDoor
open Go.ChangeShapes Go.WideShapes Go.ChangeAt Go.RowKit Go.Deep
open TM (Tl Tm)

def NmOk (t : Tm) : Prop := ∀ (w : World) (vl : Value) (l : List Int) (vp vi vk : Value), TmIn w t vp vi vk → PIn w vl l → TM.sd1 t = true → TM.sz t.ks ≤ 5000 →
  Calls Tryz.prog 43 #[tmv t vp vi vk, vl] w fun e w' => ∃ vp' vi' vk', e = .returned (tmv (TM.nm1 l t) vp' vi' vk') ∧ NewT w.heap.size w' (TM.nm1 l t) vp' vi' vk' ∧ Went w w'
set_option maxRecDepth 100000 in
set_option maxHeartbeats 8000000 in
theorem nm_step (k n : Int) (s : List UInt8) (ps : List Int) (d : RM.Dm) (ks : Tl) (hR : ∀ i x, ks.at_ i = some x → NmOk x) : NmOk ⟨k, n, s, ps, d, ks⟩ := by
  intro w vl l vp vi vk h hvl hsd hsz
  obtain ⟨P3, p3, rfl⟩ := h.p.read
  obtain ⟨I7, q7, rfl⟩ := h.d.read
  obtain ⟨A1, c1, rfl⟩ := h.k.read
  have hlen := h.k.len
  have hTk := h.k
  have hTp := h.p
  have hTd := h.d
  unfold TM.sd1 at hsd
  simp only [Bool.and_eq_true, decide_eq_true_eq] at hsd
  simp only at hlen hTk hTp hTd hsd hsz ⊢
  have hd5 : SM.sz d.is ≤ 5000 := by
    have := hsd.1.1
    unfold SM.small at this
    simp only [Bool.and_eq_true, decide_eq_true_eq] at this
    omega
  have hO := Lib.hid (fun (w' : World) (hb : Below w.heap.size w w') => own_any d w' _ (hTd.below hb) hd5)
  have hpl := hsd.1.2
  obtain ⟨N, hN⟩ : ∃ N, ks.len = N := ⟨_, rfl⟩
  obtain ⟨L3, hL3⟩ : ∃ x, ps.length = x := ⟨_, rfl⟩
  obtain ⟨L7, hL7⟩ : ∃ x, d.is.len = x := ⟨_, rfl⟩
  have hN5 : N ≤ 5000 := by have := TM.len_sz ks; omega
  have hPl := Lib.hid (fun (w' : World) (hb : Below w.heap.size w w') (m : Int) => place_any w' vl l m (hvl.below hb))
  obtain ⟨nn, hnn⟩ : ∃ nn, (if k = 2 ∨ k = 4 then TM.pl l n else n) = nn := ⟨_, rfl⟩
  obtain ⟨Al, Ll, cl, rfl⟩ : ∃ A m c, vl = .slice A m c := by obtain ⟨A, c, e⟩ := hvl.read; exact ⟨_, _, _, e⟩
  unfold TM.nm1
  simp only
  rw [hnn]
  unfold tmv
  simp only
  unfold dtv at hO
  rw [hN] at hlen hTk ⊢
  rw [hL3] at hTp hpl
  rw [hL7] at hO
  rw [hL3, hL7]
  have hN' := Lib.hid hN
  have hL3' := Lib.hid hL3
  have hR' := Lib.hid hR
  have hsz' := Lib.hid hsz
  have hsd' := Lib.hid hsd.2
  have hL := (Lies.made w 28 #[.int .i64 k, .int .i64 n, .string ⟨s.toArray⟩, .slice P3 L3 p3, .int .i64 d.k, .int .i64 d.n, .string ⟨d.s.toArray⟩, .slice I7 L7 q7, .slice A1 N c1]).alloc (.cells #[.int .i64 0, .int .i64 0, .string ⟨#[]⟩, .slice none 0 0, .int .i64 0, .int .i64 0, .string ⟨#[]⟩, .slice none 0 0, .slice none 0 0] 28)
  have hz1 : (w.alloc (.cells #[.int .i64 k, .int .i64 n, .string ⟨s.toArray⟩, .slice P3 L3 p3, .int .i64 d.k, .int .i64 d.n, .string ⟨d.s.toArray⟩, .slice I7 L7 q7, .slice A1 N c1] 28)).heap.size = w.heap.size + 1 := by simp
  have hLr := Lies.made (w.alloc (.cells #[.int .i64 k, .int .i64 n, .string ⟨s.toArray⟩, .slice P3 L3 p3, .int .i64 d.k, .int .i64 d.n, .string ⟨d.s.toArray⟩, .slice I7 L7 q7, .slice A1 N c1] 28)) 28 #[.int .i64 0, .int .i64 0, .string ⟨#[]⟩, .slice none 0 0, .int .i64 0, .int .i64 0, .string ⟨#[]⟩, .slice none 0 0, .slice none 0 0]
  rw [hz1] at hLr
  obtain ⟨W2, hW2⟩ : ∃ W2, ((w.alloc (.cells #[.int .i64 k, .int .i64 n, .string ⟨s.toArray⟩, .slice P3 L3 p3, .int .i64 d.k, .int .i64 d.n, .string ⟨d.s.toArray⟩, .slice I7 L7 q7, .slice A1 N c1] 28)).alloc (.cells #[.int .i64 0, .int .i64 0, .string ⟨#[]⟩, .slice none 0 0, .int .i64 0, .int .i64 0, .string ⟨#[]⟩, .slice none 0 0, .slice none 0 0] 28)) = W2 := ⟨_, rfl⟩
  have hba : Below w.heap.size w W2 := by rw [← hW2]; exact ((Below.refl _ w).alloc (Nat.le_refl _) _).alloc (by simp) _
  have hZ2 : W2.heap.size = w.heap.size + 2 := by rw [← hW2]; simp
  rw [hW2] at hL hLr
  have x0 := hL.cell 0
  have x1 := hL.cell 1
  have f1 := hL.free 1
  have hltL := hL.lt
  simp only [List.getElem?_cons_succ, List.getElem?_cons_zero] at x0 x1
  have hL5 := hL.stored 1 (.int .i64 nn)
  have hLr5 := hLr.far (p := ⟨w.heap.size, 1, none⟩) (by simp) (.int .i64 nn)
  simp only [List.set_cons_succ, List.set_cons_zero] at hL5
  have hb5 : Below w.heap.size w (W2.setCell ⟨w.heap.size, 1, none⟩ (.int .i64 nn)) := hba.setCell (p := ⟨w.heap.size, 1, none⟩) (Nat.le_refl _) _
  have hnn' := Lib.hid hnn
  clear hN hR hL3 hL7 hz1 h hsd hsz hTd hd5 hnn
  obtain ⟨kk, hkk⟩ : ∃ kk, decide (k = 2 ∨ k = 4) = kk := ⟨_, rfl⟩
  have hkk' := Lib.hid hkk
  clear hkk
  go_enter Tryz.func43, Tryz.ntmps43
  go_upto_region 1 with fail
  go_cut [16] from 9 to 16 (fun s16 wx => s16 = .bool kk ∧ W2 = wx)
  case first =>
    by_cases h2 : k = 2
    · obtain rfl : kk = true := by rw [← hkk'.out]; simp [h2]
      subst h2
      go_wp2_with fail
      go_meet
      case rel => exact ⟨rfl, rfl⟩
    · by_cases h4 : k = 4
      · obtain rfl : kk = true := by rw [← hkk'.out]; simp [h4]
        subst h4
        go_wp2_with fail
        go_meet
        case rel => exact ⟨rfl, rfl⟩
      · obtain rfl : kk = false := by rw [← hkk'.out]; simp [h2, h4]
        have q2 : (k == 2) = false := by simp [h2]
        have q4 : (k == 4) = false := by simp [h4]
        go_wp2_with fail
        go_meet
        case rel => exact ⟨rfl, rfl⟩
  case rest =>
  obtain ⟨rfl, rfl⟩ := hcut
  go_upto_if 16 with fail
  go_cut [17] from 17 to 21 (fun s17 wx => Lies wx w.heap.size 28 [.int .i64 k, .int .i64 nn, .string ⟨s.toArray⟩, .slice P3 L3 p3, .int .i64 d.k, .int .i64 d.n, .string ⟨d.s.toArray⟩, .slice I7 L7 q7, .slice A1 N c1] ∧ Lies wx (w.heap.size + 1) 28 [.int .i64 0, .int .i64 0, .string ⟨#[]⟩, .slice none 0 0, .int .i64 0, .int .i64 0, .string ⟨#[]⟩, .slice none 0 0, .slice none 0 0] ∧ Below w.heap.size w wx)
  case first =>
    cases kk
    · have hne : ¬ (k = 2 ∨ k = 4) := of_decide_eq_false hkk'.out
      have hnn2 := hnn'.out
      rw [if_neg hne] at hnn2
      subst hnn2
      go_wp2_with fail
      go_meet
      case rel => exact ⟨hL, hLr, hba⟩
    · have hne : k = 2 ∨ k = 4 := of_decide_eq_true hkk'.out
      have hnn2 := hnn'.out
      rw [if_pos hne] at hnn2
      have hC := Lib.hid (hPl.out W2 hba n)
      rw [hnn2] at hC
      clear hnn2 hne
      go_wp2_with (
        go_at_call 65
        refine hC.out.mono ?_
        rintro e w5 ⟨rfl, rfl⟩)
      go_meet
      case rel => exact ⟨hL5, hLr5, hb5⟩
  case rest =>
  obtain ⟨hLc, hLrc, hbc⟩ := hcut
  clear hL hLr hba hL5 hLr5 hb5 x0 x1 f1 hltL hkk' hW2 hZ2
  go_upto_block 0 with fail
  go_cut [5, 6] from 22 to 38 (fun s5 s6 wx => ∃ (P9 : Option Addr) (m9 p9 : Nat), s5 = .slice P9 m9 p9 ∧ Hid (Own wx (w.heap.size + 2) (.slice P9 m9 p9) (ps.map (TM.pl l))) ∧ Lies wx w.heap.size 28 [.int .i64 k, .int .i64 nn, .string ⟨s.toArray⟩, .slice P3 L3 p3, .int .i64 d.k, .int .i64 d.n, .string ⟨d.s.toArray⟩, .slice I7 L7 q7, .slice A1 N c1] ∧ Lies wx (w.heap.size + 1) 28 [.int .i64 0, .int .i64 0, .string ⟨#[]⟩, .slice none 0 0, .int .i64 0, .int .i64 0, .string ⟨#[]⟩, .slice none 0 0, .slice none 0 0] ∧ Below w.heap.size w wx)
  case first =>
    go_wp2_with fail
    go_loopw [5, 6] (fun v5 i wr => ∃ (j : Nat), j ≤ L3 ∧ i = .int .i64 j ∧ Own wr (w.heap.size + 2) v5 ((ps.take j).map (TM.pl l)) ∧ Lies wr w.heap.size 28 [.int .i64 k, .int .i64 nn, .string ⟨s.toArray⟩, .slice P3 L3 p3, .int .i64 d.k, .int .i64 d.n, .string ⟨d.s.toArray⟩, .slice I7 L7 q7, .slice A1 N c1] ∧ Lies wr (w.heap.size + 1) 28 [.int .i64 0, .int .i64 0, .string ⟨#[]⟩, .slice none 0 0, .int .i64 0, .int .i64 0, .string ⟨#[]⟩, .slice none 0 0, .slice none 0 0] ∧ Below w.heap.size w wr) (fun _ i _ => L3 - (intOf i).toNat)
    case atStart => exact ⟨0, by omega, rfl, by simpa using Own.none_ _ _, hLc, hLrc, hbc⟩
    case round =>
      obtain ⟨j, hj, rfl, hO5, hM1, hM2, hb⟩ := hrel
      clear hLc hLrc hbc
      have y3 : wr.cell? ⟨w.heap.size, 3, none⟩ = some (.slice P3 L3 p3) := hM1.cell 3
      obtain ⟨P9, m9, p9, rfl⟩ := slice_of hO5
      by_cases hlt : j < L3
      · have hx : ps[j]? = some (ps[j]'(by rw [hL3'.out]; exact hlt)) := List.getElem?_eq_getElem _
        obtain ⟨x, hxe⟩ : ∃ x, ps[j]'(by rw [hL3'.out]; exact hlt) = x := ⟨_, rfl⟩
        rw [hxe] at hx
        obtain ⟨b, o, rfl, hb0, p0⟩ := (hTp.below hb).cell hx
        have hC := Lib.hid (hPl.out wr hb x)
        have htk : (ps.take (j + 1)).map (TM.pl l) = (ps.take j).map (TM.pl l) ++ [TM.pl l x] := by rw [List.take_add_one, hx]; simp
        have htk' := Lib.hid htk
        have hln : ((ps.take j).map (TM.pl l)).length = j := by rw [List.length_map, List.length_take, hL3'.out]; omega
        have hln' := Lib.hid hln
        generalize TM.pl l x = y at hC htk'
        have hO5' := Lib.hid hO5
        have hl2 := hM2.lt
        have hlo := Lib.hid hO5.lt
        have hpl' := Lib.hid hpl
        clear hx hxe htk hln hO5
        go_wp2_with (first
          | (go_at_call 65
             refine hC.out.mono ?_
             rintro e w5 ⟨rfl, rfl⟩)
          | (at_builtin
             refine wpList_append_ints (B := w.heap.size + 2) (v := .slice P9 m9 p9) (x := .slice (some ⟨wr.heap.size, 0, none⟩) 1 1) (B' := 0) rfl _ _ 22 rfl Tryz.underlying22 rfl rfl (hO5'.out.turns ((Turns.refl (fun _ => False) _).alloc _) (fun _ _ h => h)) (Own.one wr y (Nat.zero_le _)) (by rw [hln'.out]; simp; have := hpl'.out; omega) (by simp; omega) ?_
             intro v9 w9 hown9 hg9 hat9
             have T1 := ((Turns.refl (fun g => (Value.slice P9 m9 p9).ownBlock = some g) wr).alloc (.cells #[.int .i64 y] 3)).then (Turns.appended hg9) (fun _ _ h => h)
             have hM5 := hM1.turns T1 (fun hh => by have := (hlo.out _ hh).1; omega)
             have hM6 := hM2.turns T1 (fun hh => by have := (hlo.out _ hh).1; omega)
             have hb9 : Below w.heap.size w w9 := hb.trans (T1.below hb.size (fun g hh => by have := (hlo.out _ hh).1; omega))
             rw [← htk'.out] at hown9
             have hown9' := Lib.hid hown9
             clear hg9 hat9 T1 hown9))
        go_roundw
        case rel => exact ⟨j + 1, by omega, by go_num, hown9'.out, hM5, hM6, hb9⟩
        case measure => simp [intOf]; omega
      · obtain rfl : j = L3 := by omega
        have hall : ps.take j = ps := by rw [← hL3'.out]; exact List.take_length
        rw [hall] at hO5
        have hp9 : ∀ g, (Value.slice P9 m9 p9).ownBlock = some g → w.heap.size + 2 ≤ g ∧ g < wr.heap.size := hO5.lt
        clear hall hp9
        have hO9 := Lib.hid hO5
        clear hO5
        go_wp2_with fail
        go_meet
        case rel => exact ⟨P9, m9, p9, rfl, hO9, hM1, hM2, hb⟩
  case rest =>
  obtain ⟨P9, m9, p9, rfl, hO9, hM1, hM2, hb⟩ := hcut
  have hO5 := hO9.out
  obtain ⟨w9, hw9e⟩ : ∃ w9, w9 = wc := ⟨_, rfl⟩
  subst hw9e
  have hp9 : ∀ g, (Value.slice P9 m9 p9).ownBlock = some g → w.heap.size + 2 ≤ g ∧ g < w9.heap.size := hO5.lt
  clear hLc hLrc hbc hO9 hPl hL3' hTp hnn'
  have x39 := hM1.cell 3
  have f39 := hM1.free 3
  have hlt9 := hM1.lt
  have hw9 := hM2.lt
  simp only [List.getElem?_cons_succ, List.getElem?_cons_zero] at x39
  have hM10 := hM1.stored 3 (.slice P9 m9 p9)
  have hMr10 := hM2.far (p := ⟨w.heap.size, 3, none⟩) (by simp) (.slice P9 m9 p9)
  simp only [List.set_cons_succ, List.set_cons_zero] at hM10
  have hb10 : Below w.heap.size w (w9.setCell ⟨w.heap.size, 3, none⟩ (.slice P9 m9 p9)) := hb.setCell (p := ⟨w.heap.size, 3, none⟩) (Nat.le_refl _) (.slice P9 m9 p9)
  have hP10' := (hO5.base (B' := 0) (Nat.zero_le _)).turns ((Turns.refl (fun k => k = w.heap.size) w9).setCell (p := ⟨w.heap.size, 3, none⟩) (fun _ => rfl) (.slice P9 m9 p9)) (fun g hg hh => by have := (hp9 g hg).1; omega)
  have hp9' := Lib.hid hp9
  have hP10 := Lib.hid hP10'
  clear hM1 hM2 hb hp9 hO5 hP10'
  go_wp2_with fail
  have hP10' := hP10.out
  clear hP10
  go_loopw [7, 8] (fun v8 i wr => ∃ (j : Nat), j ≤ N ∧ i = .int .i64 j ∧ NewR w9.heap.size wr ((TM.nmt l ks).tk j) v8 ∧ Own wr 0 (.slice P9 m9 p9) (ps.map (TM.pl l)) ∧ Lies wr w.heap.size 28 [.int .i64 k, .int .i64 nn, .string ⟨s.toArray⟩, .slice P9 m9 p9, .int .i64 d.k, .int .i64 d.n, .string ⟨d.s.toArray⟩, .slice I7 L7 q7, .slice A1 N c1] ∧ Lies wr (w.heap.size + 1) 28 [.int .i64 0, .int .i64 0, .string ⟨#[]⟩, .slice none 0 0, .int .i64 0, .int .i64 0, .string ⟨#[]⟩, .slice none 0 0, .slice none 0 0] ∧ Below w.heap.size w wr ∧ w9.heap.size ≤ wr.heap.size) (fun _ i _ => N - (intOf i).toNat)
  case atStart => exact ⟨0, by omega, rfl, by rw [Tl.tk_zero]; exact NewR.nil _ _, hP10', hM10, hMr10, hb10, by simp⟩
  case round =>
    obtain ⟨j, hj, rfl, hI, hP, hM1, hM2, hb, hw99⟩ := hrel
    clear hM10 hMr10 hb10 hP10'
    have y8 : wr.cell? ⟨w.heap.size, 8, none⟩ = some (.slice A1 N c1) := hM1.cell 8
    obtain ⟨A8, c8, rfl⟩ := hI.read
    have htl : ((TM.nmt l ks).tk j).len = j := Tl.tk_len _ j (by rw [TM.nmt_len, hN'.out]; exact hj)
    by_cases hlt : j < N
    · obtain ⟨x, hx⟩ := ks.at_some j (by rw [hN'.out]; exact hlt)
      obtain ⟨b, o, P5, p5, I5, q5, K5, r5, rfl, hb0, c10, c11, c12, c13, c14, c15, c16, c17, c18, hT5⟩ := (hTk.below hb).at_ hx
      have hup := TM.sz_in hx
      have hC := Lib.hid (hR'.out j x hx wr _ l _ _ _ hT5 (hvl.below hb) (TM.sdl_in hsd'.out hx) (by have := hsz'.out; omega))
      have hsn := Tl.tk_snoc _ j _ (TM.nmt_at l hx)
      generalize (TM.nmt l ks).tk j = out at hI hsn htl ⊢
      have hsn' := Lib.hid hsn
      have e8 : Value.slice A8 out.len c8 = .slice A8 j c8 := by rw [htl]
      rw [e8] at hI
      rw [e8]
      have htl' := Lib.hid htl
      have hI' := Lib.hid hI
      have hP' := Lib.hid hP
      have hlt2 := hM2.lt
      have hj' := Lib.hid hN5
      generalize TM.nm1 l x = y at hC hsn'
      unfold tmv at hC
      clear hx hup hsn htl e8 hT5 hI hP
      go_wp2_with (first
        | (go_at_call 43
           refine hC.out.mono ?_
           rintro e w3 ⟨v1, v2, v3, rfl, hNw, hb3⟩
           obtain ⟨P6, m6, p6, rfl⟩ : ∃ A m c, v1 = .slice A m c := by obtain ⟨A, c, e⟩ := hNw.tmin.p.read; exact ⟨_, _, _, e⟩
           obtain ⟨I6, l6, q6, rfl⟩ : ∃ A m c, v2 = .slice A m c := by obtain ⟨A, c, e⟩ := hNw.tmin.d.read; exact ⟨_, _, _, e⟩
           obtain ⟨K6, n6, r6, rfl⟩ : ∃ A m c, v3 = .slice A m c := by obtain ⟨A, c, e⟩ := hNw.tmin.k.read; exact ⟨_, _, _, e⟩
           have hb3' := Lib.hid hb3
           have hNw' := Lib.hid hNw
           have hM3 := (hM1.below hb3 hM1.lt).alloc (.cells #[.int .i64 y.k, .int .i64 y.n, .string ⟨y.s.toArray⟩, .slice P6 m6 p6, .int .i64 y.d.k, .int .i64 y.d.n, .string ⟨y.d.s.toArray⟩, .slice I6 l6 q6, .slice K6 n6 r6] 28)
           have hM4 := (hM2.below hb3 hM2.lt).alloc (.cells #[.int .i64 y.k, .int .i64 y.n, .string ⟨y.s.toArray⟩, .slice P6 m6 p6, .int .i64 y.d.k, .int .i64 y.d.n, .string ⟨y.d.s.toArray⟩, .slice I6 l6 q6, .slice K6 n6 r6] 28)
           have T0 := Lib.hid ((Turns.of_below hb3 (fun _ => False)).alloc (.cells #[.int .i64 y.k, .int .i64 y.n, .string ⟨y.s.toArray⟩, .slice P6 m6 p6, .int .i64 y.d.k, .int .i64 y.d.n, .string ⟨y.d.s.toArray⟩, .slice I6 l6 q6, .slice K6 n6 r6] 28))
           clear hb3 hNw c10 c11 c12 c13 c14 c15 c16 c17 c18 y8)
        | (at_builtin
           refine wpList_append_new (v8 := .slice A8 j c8) rfl _ _ rfl rfl rfl hI'.out hb3'.out hw99 hNw'.out (by rw [htl'.out]; omega) ?_
           intro v9 w11 hR9 hT9
           have hlo := hI'.out.lt
           have hM5 := hM3.turns hT9 (fun hh => by have := (hlo _ hh).1; omega)
           have hM6 := hM4.turns hT9 (fun hh => by have := (hlo _ hh).1; omega)
           have T01 := (T0.out.mono (Y := fun g => (Value.slice A8 j c8).ownBlock = some g) (fun _ _ h => h.elim)).then hT9 (fun _ _ h => h)
           have hP9 := hP'.out.turns T01 (fun g hg hh => by have := (hlo _ hh).1; have := (hp9'.out g hg).2; omega)
           have hb11 : Below w.heap.size w w11 := hb.trans (T01.below hb.size (fun g hh => by have := (hlo _ hh).1; omega))
           have hw11 : w9.heap.size ≤ w11.heap.size := Nat.le_trans hw99 T01.size
           clear hT9 T01 hlo hM3 hM4))
      go_roundw
      case rel => exact ⟨j + 1, by omega, by go_num, by rw [hsn'.out]; exact hR9, hP9, hM5, hM6, hb11, hw11⟩
      case measure => simp [intOf]; omega
    · obtain rfl : j = N := by omega
      have hall : (TM.nmt l ks).tk j = TM.nmt l ks := by rw [← hN'.out, ← TM.nmt_len l ks]; exact Tl.tk_all _
      have e8 : Value.slice A8 ((TM.nmt l ks).tk j).len c8 = .slice A8 j c8 := by rw [htl]
      rw [e8, hall] at hI
      rw [e8]
      have hM9 := hM1.stored 8 (.slice A8 j c8)
      have hMr9 := hM2.far (p := ⟨w.heap.size, 8, none⟩) (by simp) (.slice A8 j c8)
      simp only [List.set_cons_succ, List.set_cons_zero] at hM9
      have hb9 : Below w.heap.size w (wr.setCell ⟨w.heap.size, 8, none⟩ (.slice A8 j c8)) := hb.setCell (p := ⟨w.heap.size, 8, none⟩) (Nat.le_refl _) _
      have f8 := hM1.free 8
      have q4 := hM9.cell 4
      have q5 := hM9.cell 5
      have q6 := hM9.cell 6
      have q7 := hM9.cell 7
      have hlt1 := hM1.lt
      simp only [List.getElem?_cons_succ, List.getElem?_cons_zero] at q4 q5 q6 q7
      have hI' := Lib.hid hI
      have hP' := Lib.hid hP
      have hC := Lib.hid (hO.out _ hb9)
      have hsk : (wr.setCell ⟨w.heap.size, 8, none⟩ (.slice A8 j c8)).heap.size = wr.heap.size := by simp
      have hsk' := Lib.hid hsk
      clear hall htl e8 hI hP hsk
      go_wp2_with (
        go_at_call 28
        refine hC.out.mono ?_
        rintro e w5 ⟨v5, rfl, hO5, hb5⟩
        obtain ⟨I8, L8, q8, rfl⟩ : ∃ A m c, v5 = .slice A m c := by obtain ⟨A, c, e⟩ := hO5.read; exact ⟨_, _, _, e⟩
        have hM5 := hM9.below hb5 hM9.lt
        have hMr5 := hMr9.below hb5 hMr9.lt
        have x4 := hM5.cell 4
        have x5 := hM5.cell 5
        have x6 := hM5.cell 6
        have x7 := hM5.cell 7
        have f4 := hM5.free 4
        have f5 := hM5.free 5
        have f6 := hM5.free 6
        have f7 := hM5.free 7
        have hlt5 := hM5.lt
        have hM6 := (((hM5.stored 4 (.int .i64 d.k)).stored 5 (.int .i64 d.n)).stored 6 (.string ⟨d.s.toArray⟩)).stored 7 (.slice I8 L8 q8)
        have hMr7 := (((hMr5.far (p := ⟨w.heap.size, 4, none⟩) (by simp) (.int .i64 d.k)).far (p := ⟨w.heap.size, 5, none⟩) (by simp) (.int .i64 d.n)).far (p := ⟨w.heap.size, 6, none⟩) (by simp) (.string ⟨d.s.toArray⟩)).far (p := ⟨w.heap.size, 7, none⟩) (by simp) (.slice I8 L8 q8)
        simp only [List.getElem?_cons_succ, List.getElem?_cons_zero, List.set_cons_succ, List.set_cons_zero] at x4 x5 x6 x7 hM6
        have y0 := hM6.cell 0
        have y1 := hM6.cell 1
        have y2 := hM6.cell 2
        have y3 := hM6.cell 3
        have y4 := hM6.cell 4
        have y5 := hM6.cell 5
        have y6 := hM6.cell 6
        have y7 := hM6.cell 7
        have y8 := hM6.cell 8
        have cz0 := hMr7.cell 0
        have fz0 := hMr7.free 0
        have cz1 := hMr7.cell 1
        have fz1 := hMr7.free 1
        have cz2 := hMr7.cell 2
        have fz2 := hMr7.free 2
        have cz3 := hMr7.cell 3
        have fz3 := hMr7.free 3
        have cz4 := hMr7.cell 4
        have fz4 := hMr7.free 4
        have cz5 := hMr7.cell 5
        have fz5 := hMr7.free 5
        have cz6 := hMr7.cell 6
        have fz6 := hMr7.free 6
        have cz7 := hMr7.cell 7
        have fz7 := hMr7.free 7
        have cz8 := hMr7.cell 8
        have fz8 := hMr7.free 8
        have hltr := hMr7.lt
        simp only [List.getElem?_cons_succ, List.getElem?_cons_zero] at y0 y1 y2 y3 y4 y5 y6 y7 y8 cz0 cz1 cz2 cz3 cz4 cz5 cz6 cz7 cz8
        have hO5' := Lib.hid hO5
        have hb5' := Lib.hid hb5
        clear hO5 hb5)
      have T4 : Turns (fun k => k = w.heap.size) w5 _ := ((((Turns.refl (fun k => k = w.heap.size) w5).setCell (p := ⟨w.heap.size, 4, none⟩) (fun _ => rfl) (.int .i64 d.k)).setCell (p := ⟨w.heap.size, 5, none⟩) (fun _ => rfl) (.int .i64 d.n)).setCell (p := ⟨w.heap.size, 6, none⟩) (fun _ => rfl) (.string ⟨d.s.toArray⟩)).setCell (p := ⟨w.heap.size, 7, none⟩) (fun _ => rfl) (.slice I8 L8 q8)
      have Tz := nine_turns (T4.mono (Y := fun g => g = w.heap.size ∨ g = w.heap.size + 1) (fun _ _ h => .inl h)) (g := w.heap.size + 1) (fun _ => .inr rfl) 0 (.int .i64 k) (.int .i64 nn) (.string ⟨s.toArray⟩) (.slice P9 m9 p9) (.int .i64 d.k) (.int .i64 d.n) (.string ⟨d.s.toArray⟩) (.slice I8 L8 q8) (.slice A8 j c8)
      have Tr := (((Turns.refl (fun k => k = w.heap.size) wr).setCell (p := ⟨w.heap.size, 8, none⟩) (fun _ => rfl) (.slice A8 j c8)).mono (Y := fun g => g = w.heap.size ∨ g = w.heap.size + 1) (fun _ _ h => .inl h)).then ((Turns.of_below hb5'.out (fun g => g = w.heap.size ∨ g = w.heap.size + 1))) (fun _ _ h => h) |>.then Tz (fun _ _ h => h)
      have hMz := nine_res hMr7 (w.heap.size + 1) rfl (.int .i64 k) (.int .i64 nn) (.string ⟨s.toArray⟩) (.slice P9 m9 p9) (.int .i64 d.k) (.int .i64 d.n) (.string ⟨d.s.toArray⟩) (.slice I8 L8 q8) (.slice A8 j c8)
      have rz0 := hMz.cell 0
      have rz1 := hMz.cell 1
      have rz2 := hMz.cell 2
      have rz3 := hMz.cell 3
      have rz4 := hMz.cell 4
      have rz5 := hMz.cell 5
      have rz6 := hMz.cell 6
      have rz7 := hMz.cell 7
      have rz8 := hMz.cell 8
      unfold nine at rz0 rz1 rz2 rz3 rz4 rz5 rz6 rz7 rz8
      simp only [List.getElem?_cons_succ, List.getElem?_cons_zero, Nat.zero_add] at rz0 rz1 rz2 rz3 rz4 rz5 rz6 rz7 rz8
      refine bodyPost_ret (v := .agg #[.int .i64 k, .int .i64 nn, .string ⟨s.toArray⟩, .slice P9 m9 p9, .int .i64 d.k, .int .i64 d.n, .string ⟨d.s.toArray⟩, .slice I8 L8 q8, .slice A8 j c8]) (by simp [results, Tryz.results43, go_sem, rz0, rz1, rz2, rz3, rz4, rz5, rz6, rz7, rz8]) rfl ⟨.slice P9 m9 p9, .slice I8 L8 q8, .slice A8 j c8, rfl, ?_, ?_⟩
      · refine NewT.of (M := w9.heap.size) (hP'.out.turns Tr (fun g hg hh => by have := (hp9'.out g hg).1; rcases hh with hh | hh <;> omega)) (fun g hg => by have := hp9'.out g hg; omega) (by omega) hw99 hI'.out Tr (fun g hg => by rcases hg with hg | hg <;> omega) (D0 := fun g => wr.heap.size ≤ g) ?_ (fun _ h => h)
        exact (Dat.ind (Dat.turns hO5'.out Tz (fun g _ hs hh => by have h9 := hsk'.out; rcases hh with hh | hh <;> omega))).mono (fun g _ hs => by have h9 := hsk'.out; omega)
      · exact hb.trans (Tr.below hb.size (fun g hg => by rcases hg with hg | hg <;> omega))
theorem numbered_any (t : Tm) : NmOk t := Tl.all_one NmOk nm_step t
end Go.Proofs.YtpiekdcbjkgipaaGreatDoor

/- The reference of layer 10: Alpha. -/
namespace Go.Proofs.YtpiekdcbjkgipaaGreatDoor
open Go.ChangeShapes Go.WideShapes Go.ChangeAt Go.RowKit Go.Deep
open TM (Tl Tm)

set_option maxRecDepth 100000 in
set_option maxHeartbeats 4000000 in
theorem ralpha_any (t : Tm) (w : World) (vp vi vk : Value) (h : TmIn w t vp vi vk) (hsd : TM.sd1 t = true) (hsz : TM.sz t.ks ≤ 5000) (hmany : (t.ps ++ TM.prs t.ks).length ≤ 1000000) :
    Calls Tryz.prog 21 #[tmv t vp vi vk] w fun e w' => ∃ vp' vi' vk', e = .returned (tmv (TM.alpha t) vp' vi' vk') ∧ TmIn w' (TM.alpha t) vp' vi' vk' ∧ Went w w' := by
  have hM := Lib.hid (fun (w' : World) (hb : Below w.heap.size w w') => params_any t w' vp vi vk (h.below hb) hmany)
  have hN := Lib.hid (fun (w' : World) (hb : Below w.heap.size w w') (vl : Value) (hl : PIn w' vl (t.ps ++ TM.prs t.ks)) => numbered_any t w' vl (t.ps ++ TM.prs t.ks) vp vi vk (h.below hb) hl hsd hsz)
  have hal : TM.nm1 (t.ps ++ TM.prs t.ks) t = TM.alpha t := rfl
  rw [hal] at hN
  unfold tmv at hM hN ⊢
  have hL1 := (Lies.made w 28 #[.int .i64 t.k, .int .i64 t.n, .string ⟨t.s.toArray⟩, vp, .int .i64 t.d.k, .int .i64 t.d.n, .string ⟨t.d.s.toArray⟩, vi, vk]).alloc (.cells #[.int .i64 0, .int .i64 0, .string ⟨#[]⟩, .slice none 0 0, .int .i64 0, .int .i64 0, .string ⟨#[]⟩, .slice none 0 0, .slice none 0 0] 28)
  have hz1 : (w.alloc (.cells #[.int .i64 t.k, .int .i64 t.n, .string ⟨t.s.toArray⟩, vp, .int .i64 t.d.k, .int .i64 t.d.n, .string ⟨t.d.s.toArray⟩, vi, vk] 28)).heap.size = w.heap.size + 1 := by simp
  have hL2 := Lies.made (w.alloc (.cells #[.int .i64 t.k, .int .i64 t.n, .string ⟨t.s.toArray⟩, vp, .int .i64 t.d.k, .int .i64 t.d.n, .string ⟨t.d.s.toArray⟩, vi, vk] 28)) 28 #[.int .i64 0, .int .i64 0, .string ⟨#[]⟩, .slice none 0 0, .int .i64 0, .int .i64 0, .string ⟨#[]⟩, .slice none 0 0, .slice none 0 0]
  rw [hz1] at hL2
  have hba : Below w.heap.size w ((w.alloc (.cells #[.int .i64 t.k, .int .i64 t.n, .string ⟨t.s.toArray⟩, vp, .int .i64 t.d.k, .int .i64 t.d.n, .string ⟨t.d.s.toArray⟩, vi, vk] 28)).alloc (.cells #[.int .i64 0, .int .i64 0, .string ⟨#[]⟩, .slice none 0 0, .int .i64 0, .int .i64 0, .string ⟨#[]⟩, .slice none 0 0, .slice none 0 0] 28)) := ((Below.refl _ w).alloc (Nat.le_refl _) _).alloc (by simp) _
  obtain ⟨W2, hW2⟩ : ∃ W2, ((w.alloc (.cells #[.int .i64 t.k, .int .i64 t.n, .string ⟨t.s.toArray⟩, vp, .int .i64 t.d.k, .int .i64 t.d.n, .string ⟨t.d.s.toArray⟩, vi, vk] 28)).alloc (.cells #[.int .i64 0, .int .i64 0, .string ⟨#[]⟩, .slice none 0 0, .int .i64 0, .int .i64 0, .string ⟨#[]⟩, .slice none 0 0, .slice none 0 0] 28)) = W2 := ⟨_, rfl⟩
  rw [hW2] at hL1 hL2 hba
  have hbd := below_drew1 hba
  have hlt2 : w.heap.size + 1 < W2.heap.size := hL2.lt
  clear h hz1 hal hsd hsz hmany
  go_enter Tryz.func21, Tryz.ntmps21
  go_upto_region 1 with fail
  refine wp_region_held_drew (S := fun w' => Lies w' w.heap.size 28 [.int .i64 t.k, .int .i64 t.n, .string ⟨t.s.toArray⟩, vp, .int .i64 t.d.k, .int .i64 t.d.n, .string ⟨t.d.s.toArray⟩, vi, vk] ∧ w.heap.size + 1 < w'.heap.size) rfl ⟨hL1.drew, hlt2⟩ (fun hHeld => ?_)
  refine wpAnyH_take (i := 0) (oi := { dst := some 3, op := Go.Op.load 28 (Go.Operand.tmp 1), type := 28, pos := "ref.go:145", after := #[], guard := none }) (v := _) rfl (by kernel_rfl) (by kernel_rfl) (by kernel_rfl) (fun _ _ _ h => h) (Or.inl ⟨by rfl, fun w' hS => load_term w' _ _ _ _ _ _ _ _ _ _ _ _ _ rfl rfl hS.1⟩) (by assumption) ?_
  try simp only [Act.put, List.setIfInBounds_toArray, List.set_cons_zero, List.set_cons_succ]
  refine wpAnyH_take (i := 1) (oi := { dst := some 4, op := Go.Op.load 28 (Go.Operand.tmp 1), type := 28, pos := "ref.go:145", after := #[], guard := none }) (v := _) rfl (by kernel_rfl) (by kernel_rfl) (by kernel_rfl) (fun _ _ _ h => h) (Or.inl ⟨by rfl, fun w' hS => load_term w' _ _ _ _ _ _ _ _ _ _ _ _ _ rfl rfl hS.1⟩) (by assumption) ?_
  try simp only [Act.put, List.setIfInBounds_toArray, List.set_cons_zero, List.set_cons_succ]
  refine wpAnyH_ready (rs := [2]) (by kernel_rfl) (by simp) ?_
  refine AllReadyH.cons (o := { dst := some 5, op := Go.Op.call { callee := Go.Callee.value (Go.Operand.func 23), args := #[Go.Operand.tmp 4], argTypes := #[28] }, type := 22, pos := "ref.go:145", after := #[{ on := 1, ground := Go.Ground.data }], guard := none }) rfl (fun K hK => ?_) AllReadyH.nil
  rw [if_pos (by rfl)]
  go_simp
  refine (hM.out _ hbd).mono ?_
  rintro e w5 ⟨v5, rfl, hO5, hb5⟩
  obtain ⟨P5, m5, p5, rfl⟩ := slice_of hO5
  have hM5 := hHeld.1.below hb5 hHeld.1.lt
  have hR5 := hL2.drew.below hb5 hL2.lt
  have c5 := Lib.hid (hbd.trans (Below.mono hb5 hbd.size))
  have hp5 := Lib.hid hO5.pin
  have hs5 := hR5.lt
  clear hb5 hO5 hHeld
  refine hK.out _ _ ⟨hM5, hs5⟩ (fun hHeld => ?_)
  clear hK K
  try simp only [Act.put, List.setIfInBounds_toArray, List.set_cons_zero, List.set_cons_succ]
  refine wpAnyH_ready (rs := [3]) (by kernel_rfl) (by simp) ?_
  refine AllReadyH.cons (o := { dst := some 6, op := Go.Op.call { callee := Go.Callee.value (Go.Operand.func 43), args := #[Go.Operand.tmp 3, Go.Operand.tmp 5], argTypes := #[28, 22] }, type := 28, pos := "ref.go:145", after := #[{ on := 0, ground := Go.Ground.data }, { on := 2, ground := Go.Ground.data }, { on := 2, ground := Go.Ground.chain }], guard := none }) rfl (fun K hK => ?_) AllReadyH.nil
  rw [if_pos (by rfl)]
  go_simp
  refine (hN.out _ c5.out _ hp5.out).mono ?_
  rintro e w7 ⟨v1, v2, v3, rfl, hT7, hb7⟩
  obtain ⟨P6, m6, p6, rfl⟩ : ∃ A m c, v1 = .slice A m c := by obtain ⟨A, c, e⟩ := hT7.tmin.p.read; exact ⟨_, _, _, e⟩
  obtain ⟨I6, l6, q6, rfl⟩ : ∃ A m c, v2 = .slice A m c := by obtain ⟨A, c, e⟩ := hT7.tmin.d.read; exact ⟨_, _, _, e⟩
  obtain ⟨K6, n6, r6, rfl⟩ : ∃ A m c, v3 = .slice A m c := by obtain ⟨A, c, e⟩ := hT7.tmin.k.read; exact ⟨_, _, _, e⟩
  have hM7 := hHeld.1.below hb7 hHeld.1.lt
  have hR7 := hR5.below hb7 hR5.lt
  have c7 := Lib.hid (c5.out.trans (Below.mono hb7 c5.out.size))
  have hT7' := Lib.hid hT7
  have hs7 := hR7.lt
  have hs57 := hs5
  clear hb7 hT7 hHeld
  refine hK.out _ _ ⟨hM7, hs7⟩ (fun hHeld => ?_)
  clear hK K
  try simp only [Act.put, List.setIfInBounds_toArray, List.set_cons_zero, List.set_cons_succ]
  have cz0 := hR7.cell 0
  have fz0 := hR7.free 0
  have cz1 := hR7.cell 1
  have fz1 := hR7.free 1
  have cz2 := hR7.cell 2
  have fz2 := hR7.free 2
  have cz3 := hR7.cell 3
  have fz3 := hR7.free 3
  have cz4 := hR7.cell 4
  have fz4 := hR7.free 4
  have cz5 := hR7.cell 5
  have fz5 := hR7.free 5
  have cz6 := hR7.cell 6
  have fz6 := hR7.free 6
  have cz7 := hR7.cell 7
  have fz7 := hR7.free 7
  have cz8 := hR7.cell 8
  have fz8 := hR7.free 8
  simp only [List.getElem?_cons_succ, List.getElem?_cons_zero] at cz0 cz1 cz2 cz3 cz4 cz5 cz6 cz7 cz8
  refine wpAnyH_ready (rs := [4]) (by kernel_rfl) (by simp) ?_
  refine AllReadyH.cons (o := { dst := none, op := Go.Op.store 28 (Go.Operand.tmp 2) (Go.Operand.tmp 6), type := 0, pos := "ref.go:145", after := #[{ on := 3, ground := Go.Ground.data }, { on := 3, ground := Go.Ground.chain }, { on := 0, ground := Go.Ground.phase }, { on := 1, ground := Go.Ground.phase }, { on := 2, ground := Go.Ground.phase }, { on := 3, ground := Go.Ground.phase }], guard := none }) rfl (fun K hK => ?_) AllReadyH.nil
  rw [if_pos (by rfl)]
  go_simp
  have hF := nine_far hHeld.1 (g := w.heap.size + 1) (by omega) 0 (.int .i64 (TM.alpha t).k) (.int .i64 (TM.alpha t).n) (.string ⟨(TM.alpha t).s.toArray⟩) (.slice P6 m6 p6) (.int .i64 (TM.alpha t).d.k) (.int .i64 (TM.alpha t).d.n) (.string ⟨(TM.alpha t).d.s.toArray⟩) (.slice I6 l6 q6) (.slice K6 n6 r6)
  have hs9 := hs7
  refine hK.out _ _ ⟨hF, by simp; exact hs9⟩ (fun hHeld2 => ?_)
  clear hK K hHeld hHeld2 hF
  try simp only [Act.put, List.setIfInBounds_toArray, List.set_cons_zero, List.set_cons_succ]
  refine wpAnyH_done (by kernel_rfl) ?_ _
  go_wp2_with fail
  have T9 := nine_turns (Turns.refl (fun g => g = w.heap.size + 1) w7) (g := w.heap.size + 1) (fun _ => rfl) 0 (.int .i64 (TM.alpha t).k) (.int .i64 (TM.alpha t).n) (.string ⟨(TM.alpha t).s.toArray⟩) (.slice P6 m6 p6) (.int .i64 (TM.alpha t).d.k) (.int .i64 (TM.alpha t).d.n) (.string ⟨(TM.alpha t).d.s.toArray⟩) (.slice I6 l6 q6) (.slice K6 n6 r6)
  have hMz := nine_res hR7 (w.heap.size + 1) rfl (.int .i64 (TM.alpha t).k) (.int .i64 (TM.alpha t).n) (.string ⟨(TM.alpha t).s.toArray⟩) (.slice P6 m6 p6) (.int .i64 (TM.alpha t).d.k) (.int .i64 (TM.alpha t).d.n) (.string ⟨(TM.alpha t).d.s.toArray⟩) (.slice I6 l6 q6) (.slice K6 n6 r6)
  have rz0 := hMz.cell 0
  have rz1 := hMz.cell 1
  have rz2 := hMz.cell 2
  have rz3 := hMz.cell 3
  have rz4 := hMz.cell 4
  have rz5 := hMz.cell 5
  have rz6 := hMz.cell 6
  have rz7 := hMz.cell 7
  have rz8 := hMz.cell 8
  unfold nine at rz0 rz1 rz2 rz3 rz4 rz5 rz6 rz7 rz8
  simp only [List.getElem?_cons_succ, List.getElem?_cons_zero, Nat.zero_add] at rz0 rz1 rz2 rz3 rz4 rz5 rz6 rz7 rz8
  refine bodyPost_ret (v := .agg #[.int .i64 (TM.alpha t).k, .int .i64 (TM.alpha t).n, .string ⟨(TM.alpha t).s.toArray⟩, .slice P6 m6 p6, .int .i64 (TM.alpha t).d.k, .int .i64 (TM.alpha t).d.n, .string ⟨(TM.alpha t).d.s.toArray⟩, .slice I6 l6 q6, .slice K6 n6 r6]) (by simp [results, Tryz.results21, go_sem, rz0, rz1, rz2, rz3, rz4, rz5, rz6, rz7, rz8]) rfl ⟨.slice P6 m6 p6, .slice I6 l6 q6, .slice K6 n6 r6, rfl, ?_, ?_⟩
  · exact (hT7'.out.turns T9 (fun g hg hB => by have h9 := hg; omega)).tmin
  · exact ((Turns.of_below c7.out (fun _ => False)).then T9 (fun i hi he => by omega)).below (Nat.le_refl _) (fun _ h => h.elim)
end Go.Proofs.YtpiekdcbjkgipaaGreatDoor

/- The reference's Same of data, whichever they are. -/
namespace Go.Proofs.YtpiekdcbjkgipaaGreatDoor
open Go.ChangeShapes Go.WideShapes Go.ChangeAt Go.RowKit Go.Deep

/-- every cell that was there is as it was -/
def CellsAs (wr w' : World) : Prop := ∀ p : Addr, p.block < wr.heap.size → w'.cell? p = wr.cell? p
theorem CellsAs.of {wr w' : World} (h : Below wr.heap.size wr w') : CellsAs wr w' := fun _ hp => h.cell hp
def SrOk (x : RM.Dm) : Prop := ∀ (y : RM.Dm) (w : World) (u v : Value), In w u x.is → In w v y.is → Calls Tryz.prog 41 #[dtv x u, dtv y v] w (BoolIff (x = y) w)
set_option maxRecDepth 100000 in
set_option maxHeartbeats 4000000 in
theorem sr_step (k n : Int) (s : List UInt8) (is : RM.Dl) (hP : ∀ i x, is.at_ i = some x → SrOk x) : SrOk ⟨k, n, s, is⟩ := by
  intro y w u v h1 h2
  obtain ⟨k2, n2, s2, ys⟩ := y
  obtain ⟨A1, c1, rfl⟩ := h1.read
  obtain ⟨A2, c2, rfl⟩ := h2.read
  unfold dtv
  simp only at h1 h2 ⊢
  have hl1 := h1.len
  have hl2 := h2.len
  have hiff : ((⟨k, n, s, is⟩ : RM.Dm) = ⟨k2, n2, s2, ys⟩) ↔ (k = k2 ∧ n = n2 ∧ s = s2 ∧ is = ys) := by simp only [RM.Dm.mk.injEq]
  have hiff' := Lib.hid hiff
  have hP' := Lib.hid hP
  have hN0 : is = ys → is.len = ys.len := fun e => by rw [e]
  obtain ⟨N, hN⟩ : ∃ N, is.len = N := ⟨_, rfl⟩
  obtain ⟨M, hM⟩ : ∃ M, ys.len = M := ⟨_, rfl⟩
  rw [hN, hM] at hN0
  rw [hN] at h1 hl1 ⊢
  rw [hM] at h2 hl2 ⊢
  have hN' := Lib.hid hN
  have hM' := Lib.hid hM
  have hN0' := Lib.hid hN0
  have hL1 := (Lies.made w 25 #[.int .i64 k, .int .i64 n, .string ⟨s.toArray⟩, .slice A1 N c1]).alloc (.cells #[.int .i64 k2, .int .i64 n2, .string ⟨s2.toArray⟩, .slice A2 M c2] 25)
  have hz1 : (w.alloc (.cells #[.int .i64 k, .int .i64 n, .string ⟨s.toArray⟩, .slice A1 N c1] 25)).heap.size = w.heap.size + 1 := by simp
  have hL2 := Lies.made (w.alloc (.cells #[.int .i64 k, .int .i64 n, .string ⟨s.toArray⟩, .slice A1 N c1] 25)) 25 #[.int .i64 k2, .int .i64 n2, .string ⟨s2.toArray⟩, .slice A2 M c2]
  rw [hz1] at hL2
  have hba : Below w.heap.size w ((w.alloc (.cells #[.int .i64 k, .int .i64 n, .string ⟨s.toArray⟩, .slice A1 N c1] 25)).alloc (.cells #[.int .i64 k2, .int .i64 n2, .string ⟨s2.toArray⟩, .slice A2 M c2] 25)) := ((Below.refl _ w).alloc (Nat.le_refl _) _).alloc (by simp) _
  clear hP hiff hN hM hN0 hz1
  by_cases hk : k = k2
  · by_cases hn : n = n2
    · by_cases hs : s = s2
      · by_cases hne : N = M
        · subst hk hn hs hne
          go_enter Tryz.func41, Tryz.ntmps41
          go_wp2_with fail
          go_loopw [5] (fun i wr => ∃ (j : Nat), j ≤ N ∧ i = .int .i64 j ∧ Hid (is = ys ↔ SM.dr is j = SM.dr ys j) ∧ Lies wr w.heap.size 25 [.int .i64 k, .int .i64 n, .string ⟨s.toArray⟩, .slice A1 N c1] ∧ Lies wr (w.heap.size + 1) 25 [.int .i64 k, .int .i64 n, .string ⟨s.toArray⟩, .slice A2 N c2] ∧ Below w.heap.size w wr) (fun i _ => N - (intOf i).toNat)
          case atStart => exact ⟨0, Nat.zero_le _, rfl, Lib.hid (by rw [SM.dr_zero, SM.dr_zero]), hL1, hL2, hba⟩
          case round =>
            obtain ⟨j, hj, rfl, hd, hM1, hM2, hb⟩ := hrel
            clear hL1 hL2 hba
            have y3 : wr.cell? ⟨w.heap.size, 3, none⟩ = some (.slice A1 N c1) := hM1.cell 3
            have z3 : wr.cell? ⟨w.heap.size + 1, 3, none⟩ = some (.slice A2 N c2) := hM2.cell 3
            have hlz := hM2.lt
            by_cases hlt : j < N
            · obtain ⟨x, hx⟩ := is.at_some j (by rw [hN'.out]; exact hlt)
              obtain ⟨y, hy⟩ := ys.at_some j (by rw [hM'.out]; exact hlt)
              obtain ⟨g1, o1, B1, b1, rfl, hg1, p0, p1, p2, p3, hd1⟩ := (h1.below hb).at_ hx
              obtain ⟨g2, o2, B2, b2, rfl, hg2, q0, q1, q2, q3, hd2⟩ := (h2.below hb).at_ hy
              have hdr := SM.dr_eq hx hy
              have hC := Lib.hid (hP'.out j x hx y _ _ _ hd1.drew hd2.drew)
              unfold dtv at hC
              have hdr' := Lib.hid hdr
              have hb2 := Lib.hid hb
              clear hx hy hd1 hd2 hdr
              go_wp2_with fail
              refine wp_region_held_drew (S := fun w' => CellsAs wr w') rfl (CellsAs.of (below_drew1 (Below.refl _ wr))) (fun hHeld => ?_)
              refine wpAnyH_take (i := 0) (oi := { dst := some 41, op := Go.Op.fieldAddr 25 (Go.Operand.tmp 2) 3, type := 0, pos := "ref.go:232", after := #[], guard := none }) (v := ?_) rfl (by kernel_rfl) (by kernel_rfl) (by kernel_rfl) (fun _ _ _ h => h) (Or.inl ⟨by rfl, ?_⟩) (by assumption) ?_
              rotate_left
              · intro w hSw; clear hSw; go_simp; try with_reducible rfl
              try simp only [Act.put, List.setIfInBounds_toArray, List.set_cons_zero, List.set_cons_succ]
              refine wpAnyH_take (i := 1) (oi := { dst := some 42, op := Go.Op.load 23 (Go.Operand.tmp 41), type := 23, pos := "ref.go:232", after := #[{ on := 0, ground := Go.Ground.data }], guard := none }) (v := ?_) rfl (by kernel_rfl) (by kernel_rfl) (by kernel_rfl) (fun _ _ _ h => h) (Or.inl ⟨by rfl, ?_⟩) (by assumption) ?_
              rotate_left
              · intro w7 hS7
                have k3 := (hS7 ⟨w.heap.size, 3, none⟩ (by show w.heap.size < wr.heap.size; omega)).trans y3
                clear hS7
                go_simp
                try with_reducible rfl
              try simp only [Act.put, List.setIfInBounds_toArray, List.set_cons_zero, List.set_cons_succ]
              refine wpAnyH_take (i := 2) (oi := { dst := some 43, op := Go.Op.move (Go.Operand.tmp 5), type := 3, pos := "ref.go:232", after := #[], guard := none }) (v := ?_) rfl (by kernel_rfl) (by kernel_rfl) (by kernel_rfl) (fun _ _ _ h => h) (Or.inl ⟨by rfl, ?_⟩) (by assumption) ?_
              rotate_left
              · intro w hSw; clear hSw; go_simp; try with_reducible rfl
              try simp only [Act.put, List.setIfInBounds_toArray, List.set_cons_zero, List.set_cons_succ]
              refine wpAnyH_take (i := 3) (oi := { dst := some 44, op := Go.Op.indexAddr 23 (Go.Operand.tmp 42) (Go.Operand.tmp 43), type := 0, pos := "ref.go:232", after := #[{ on := 1, ground := Go.Ground.data }, { on := 2, ground := Go.Ground.data }], guard := none }) (v := ?_) rfl (by kernel_rfl) (by kernel_rfl) (by kernel_rfl) (fun _ _ _ h => h) (Or.inl ⟨by rfl, ?_⟩) (by assumption) ?_
              rotate_left
              · intro w hSw; clear hSw; go_simp; try with_reducible rfl
              try simp only [Act.put, List.setIfInBounds_toArray, List.set_cons_zero, List.set_cons_succ]
              refine wpAnyH_take (i := 4) (oi := { dst := some 45, op := Go.Op.load 25 (Go.Operand.tmp 44), type := 25, pos := "ref.go:232", after := #[{ on := 3, ground := Go.Ground.data }], guard := none }) (v := ?_) rfl (by kernel_rfl) (by kernel_rfl) (by kernel_rfl) (fun _ _ _ h => h) (Or.inl ⟨by rfl, ?_⟩) (by assumption) ?_
              rotate_left
              · intro w7 hS7
                have l0 := (hS7 ⟨g1, o1 + j * 4, none⟩ hg1).trans p0
                have l1 := (hS7 ⟨g1, o1 + j * 4 + 1, none⟩ hg1).trans p1
                have l2 := (hS7 ⟨g1, o1 + j * 4 + 2, none⟩ hg1).trans p2
                have l3 := (hS7 ⟨g1, o1 + j * 4 + 3, none⟩ hg1).trans p3
                clear hS7
                go_simp
                try with_reducible rfl
              try simp only [Act.put, List.setIfInBounds_toArray, List.set_cons_zero, List.set_cons_succ]
              refine wpAnyH_take (i := 5) (oi := { dst := some 46, op := Go.Op.fieldAddr 25 (Go.Operand.tmp 3) 3, type := 0, pos := "ref.go:232", after := #[], guard := none }) (v := ?_) rfl (by kernel_rfl) (by kernel_rfl) (by kernel_rfl) (fun _ _ _ h => h) (Or.inl ⟨by rfl, ?_⟩) (by assumption) ?_
              rotate_left
              · intro w hSw; clear hSw; go_simp; try with_reducible rfl
              try simp only [Act.put, List.setIfInBounds_toArray, List.set_cons_zero, List.set_cons_succ]
              refine wpAnyH_take (i := 6) (oi := { dst := some 47, op := Go.Op.load 23 (Go.Operand.tmp 46), type := 23, pos := "ref.go:232", after := #[{ on := 5, ground := Go.Ground.data }], guard := none }) (v := ?_) rfl (by kernel_rfl) (by kernel_rfl) (by kernel_rfl) (fun _ _ _ h => h) (Or.inl ⟨by rfl, ?_⟩) (by assumption) ?_
              rotate_left
              · intro w7 hS7
                have k3 := (hS7 ⟨w.heap.size + 1, 3, none⟩ hlz).trans z3
                clear hS7
                go_simp
                try with_reducible rfl
              try simp only [Act.put, List.setIfInBounds_toArray, List.set_cons_zero, List.set_cons_succ]
              refine wpAnyH_take (i := 7) (oi := { dst := some 48, op := Go.Op.move (Go.Operand.tmp 5), type := 3, pos := "ref.go:232", after := #[], guard := none }) (v := ?_) rfl (by kernel_rfl) (by kernel_rfl) (by kernel_rfl) (fun _ _ _ h => h) (Or.inl ⟨by rfl, ?_⟩) (by assumption) ?_
              rotate_left
              · intro w hSw; clear hSw; go_simp; try with_reducible rfl
              try simp only [Act.put, List.setIfInBounds_toArray, List.set_cons_zero, List.set_cons_succ]
              refine wpAnyH_take (i := 8) (oi := { dst := some 49, op := Go.Op.indexAddr 23 (Go.Operand.tmp 47) (Go.Operand.tmp 48), type := 0, pos := "ref.go:232", after := #[{ on := 6, ground := Go.Ground.data }, { on := 7, ground := Go.Ground.data }], guard := none }) (v := ?_) rfl (by kernel_rfl) (by kernel_rfl) (by kernel_rfl) (fun _ _ _ h => h) (Or.inl ⟨by rfl, ?_⟩) (by assumption) ?_
              rotate_left
              · intro w hSw; clear hSw; go_simp; try with_reducible rfl
              try simp only [Act.put, List.setIfInBounds_toArray, List.set_cons_zero, List.set_cons_succ]
              refine wpAnyH_take (i := 9) (oi := { dst := some 50, op := Go.Op.load 25 (Go.Operand.tmp 49), type := 25, pos := "ref.go:232", after := #[{ on := 8, ground := Go.Ground.data }], guard := none }) (v := ?_) rfl (by kernel_rfl) (by kernel_rfl) (by kernel_rfl) (fun _ _ _ h => h) (Or.inl ⟨by rfl, ?_⟩) (by assumption) ?_
              rotate_left
              · intro w7 hS7
                have l0 := (hS7 ⟨g2, o2 + j * 4, none⟩ hg2).trans q0
                have l1 := (hS7 ⟨g2, o2 + j * 4 + 1, none⟩ hg2).trans q1
                have l2 := (hS7 ⟨g2, o2 + j * 4 + 2, none⟩ hg2).trans q2
                have l3 := (hS7 ⟨g2, o2 + j * 4 + 3, none⟩ hg2).trans q3
                clear hS7
                go_simp
                try with_reducible rfl
              try simp only [Act.put, List.setIfInBounds_toArray, List.set_cons_zero, List.set_cons_succ]
              refine wpAnyH_ready (rs := [10]) (by kernel_rfl) (by simp) ?_
              refine AllReadyH.cons (o := { dst := some 51, op := Go.Op.call { callee := Go.Callee.value (Go.Operand.func 41), args := #[Go.Operand.tmp 45, Go.Operand.tmp 50], argTypes := #[25, 25] }, type := 4, pos := "ref.go:232", after := #[{ on := 4, ground := Go.Ground.data }, { on := 9, ground := Go.Ground.data }], guard := none }) rfl (fun K hK => ?_) AllReadyH.nil
              rw [if_pos (by rfl)]
              go_simp
              refine hC.out.mono ?_
              rintro e w5 ⟨r, rfl, hr, hb5⟩
              have hr' := Lib.hid hr
              have hM3 := hM1.drew.below hb5 hM1.lt
              have hM4 := hM2.drew.below hb5 hM2.lt
              have hb6 : Below w.heap.size w w5 := hb2.out.trans (below_of_drew (Below.mono hb5 hb2.out.size))
              have kc : CellsAs wr w5 := CellsAs.of (below_of_drew hb5)
              clear hr hb5 hHeld
              refine hK.out _ _ kc (fun hHeld => ?_)
              clear hK K
              try simp only [Act.put, List.setIfInBounds_toArray, List.set_cons_zero, List.set_cons_succ]
              refine wpAnyH_take (i := 11) (oi := { dst := some 52, op := Go.Op.unOp Go.UnOp.not 4 (Go.Operand.tmp 51), type := 4, pos := "ref.go:232", after := #[{ on := 10, ground := Go.Ground.data }], guard := none }) (v := ?_) rfl (by kernel_rfl) (by kernel_rfl) (by kernel_rfl) (fun _ _ _ h => h) (Or.inl ⟨by rfl, ?_⟩) (by assumption) ?_
              rotate_left
              · intro w hSw; clear hSw; go_simp; try with_reducible rfl
              try simp only [Act.put, List.setIfInBounds_toArray, List.set_cons_zero, List.set_cons_succ]
              refine wpAnyH_done (by kernel_rfl) ?_ _
              cases r
              · go_wp2_with fail
                go_ret
                refine ⟨false, rfl, ?_, hb6⟩
                first
                  | (rw [hd.out, hdr'.out, ← hr'.out]; simp; done)
                  | (rw [hiff'.out, hd.out, hdr'.out, ← hr'.out]; simp)
              · go_wp2_with fail
                go_roundw
                case rel => exact ⟨j + 1, by omega, by go_num, Lib.hid (by rw [hd.out, hdr'.out, ← hr'.out]; simp), hM3, hM4, hb6⟩
                case measure => simp [intOf]; omega
            · obtain rfl : j = N := by omega
              go_wp2_with fail
              go_ret
              refine ⟨true, rfl, ?_, hb⟩
              have he : is = ys := by rw [hd.out, SM.dr_end is j (by rw [hN'.out]; exact Nat.le_refl _), SM.dr_end ys j (by rw [hM'.out]; exact Nat.le_refl _)]
              simp [he]
        · subst hk hn hs
          have hne' := Lib.hid hne
          go_enter Tryz.func41, Tryz.ntmps41
          go_wp2_with fail
          go_ret
          have hno : ¬ is = ys := fun h => hne'.out (hN0'.out h)
          exact ⟨false, rfl, by simp [hno], hba⟩
      · obtain ⟨e1, e2, e3⟩ := str_ne hs
        subst hk hn
        have hs' := Lib.hid hs
        clear hs
        go_enter Tryz.func41, Tryz.ntmps41
        go_wp2_with fail
        go_ret
        exact ⟨false, rfl, by first | (rw [hiff'.out]; simp [hs'.out]; done) | simp, hba⟩
    · subst hk
      have hn' := Lib.hid hn
      go_enter Tryz.func41, Tryz.ntmps41
      go_wp2_with fail
      go_ret
      exact ⟨false, rfl, by first | (rw [hiff'.out]; simp [hn'.out]; done) | simp, hba⟩
  · have hk' := Lib.hid hk
    go_enter Tryz.func41, Tryz.ntmps41
    go_wp2_with fail
    go_ret
    exact ⟨false, rfl, by first | (rw [hiff'.out]; simp [hk'.out]; done) | simp, hba⟩
theorem rsame_any (x : RM.Dm) : SrOk x := RM.Dl.all_of SrOk sr_step (.one x) 0 x (by cases x; rfl)
end Go.Proofs.YtpiekdcbjkgipaaGreatDoor
