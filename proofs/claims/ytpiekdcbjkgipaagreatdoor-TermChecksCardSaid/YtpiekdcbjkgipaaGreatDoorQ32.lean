/- Package term: are two terms the same, all through? The library's Equal over ints, EqualFunc over terms. -/
import Derived.Test.YtpiekdcbjkgipaaGreatDoorQ31
import Derived.Test.YtpiekdcbjkgipaaGreatDoorShelf
import Derived.Test.YtpiekdcbjkgipaaGreatDoorQ7
namespace Go.Proofs.YtpiekdcbjkgipaaGreatDoor
open Go.ChangeShapes Go.WideShapes Go.ChangeAt Go.RowKit Go.Deep
open TM (Tl Tm)

theorem equalInts_any (a b : List Int) (w : World) (u v : Value) (h1 : PIn w u a) (h2 : PIn w v b) : Calls Tryz.prog 62 #[u, v] w (BoolIff (a = b) w) := by
  obtain ⟨A1, c1, e1, hl1, b1, o1, k1, q1⟩ := h1
  obtain ⟨A2, c2, e2, hl2, b2, o2, k2, q2⟩ := h2
  subst e1 e2
  have wd : ∀ q, Went w (w.drewN q) := fun q => below_drewN (Below.refl _ _) q
  by_cases hne : a.length = b.length
  · by_cases h0 : a.length = 0
    · have ha : a = [] := List.eq_nil_of_length_eq_zero h0
      have hb : b = [] := List.eq_nil_of_length_eq_zero (by omega)
      subst ha hb
      refine (Tryz.slices_Equal_int_empty A1 A2 c1 0 c2 w (by omega)).mono ?_
      rintro e w' ⟨rfl, rfl⟩
      exact ⟨_, rfl, by simp, Below.refl _ _⟩
    · obtain ⟨hA1, _⟩ := k1 (by omega)
      obtain ⟨hA2, _⟩ := k2 (by omega)
      subst hA1 hA2
      have g : ∀ (l : List Int) (j : Nat), j < l.length → l[j]? = some (l.getD j 0) := fun l j hj => by
        rw [List.getD_eq_getElem?_getD, List.getElem?_eq_getElem hj]; rfl
      refine (Tryz.slices_Equal_int b1 o1 a.length c1 b2 o2 b.length c2 a b w (Nat.le_refl _) (Nat.le_refl _) hl1 hl2 (fun j hj => q1 j _ (g a j hj)) (fun j hj => q2 j _ (g b j hj))).mono ?_
      rintro e w' ⟨rfl, q, rfl⟩
      exact ⟨_, rfl, by rw [List.take_length, List.take_length, beq_iff_eq], wd q⟩
  · refine (Tryz.slices_Equal_int_lens A1 A2 a.length c1 b.length c2 w hne).mono ?_
    rintro e w' ⟨rfl, rfl⟩
    refine ⟨_, rfl, ?_, Below.refl _ _⟩
    constructor
    · intro h; simp at h
    · intro h; exact absurd (by rw [h]) hne
theorem TM.dr_eq {a b : Tl} {j : Nat} {x y : Tm} (hx : a.at_ j = some x) (hy : b.at_ j = some y) : Tl.dr a j = Tl.dr b j ↔ (x = y ∧ Tl.dr a (j + 1) = Tl.dr b (j + 1)) := by
  rw [Tl.dr_at a j x hx, Tl.dr_at b j y hy]
  obtain ⟨k, n, s, ps, d, is⟩ := x
  obtain ⟨k2, n2, s2, ps2, d2, is2⟩ := y
  simp only [Tl.cons.injEq, Tm.mk.injEq]
  constructor
  · rintro ⟨h1, h2, h3, h4, h5, h6, h7⟩; exact ⟨⟨h1, h2, h3, h4, h5, h6⟩, h7⟩
  · rintro ⟨⟨h1, h2, h3, h4, h5, h6⟩, h7⟩; exact ⟨h1, h2, h3, h4, h5, h6, h7⟩
def StOk (x : Tm) : Prop := ∀ (y : Tm) (w : World) (u1 u2 u3 v1 v2 v3 : Value), TmIn w x u1 u2 u3 → TmIn w y v1 v2 v3 → Calls Tryz.prog 42 #[tmv x u1 u2 u3, tmv y v1 v2 v3] w (BoolIff (x = y) w)
set_option maxRecDepth 100000 in
set_option maxHeartbeats 4000000 in
theorem equalTerms_any (is ys : Tl) (hP : ∀ i x, is.at_ i = some x → StOk x) (w : World) (u v : Value) (h1 : TIn w u is) (h2 : TIn w v ys) :
    Calls Tryz.prog 64 #[u, v, .func (.func 42) #[] #[]] w (BoolIff (is = ys) w) := by
  obtain ⟨A1, c1, rfl⟩ := h1.read
  obtain ⟨A2, c2, rfl⟩ := h2.read
  have hl1 := h1.len
  have hl2 := h2.len
  obtain ⟨N, hN⟩ : ∃ N, is.len = N := ⟨_, rfl⟩
  obtain ⟨M, hM⟩ : ∃ M, ys.len = M := ⟨_, rfl⟩
  rw [hN] at h1 hl1 ⊢
  rw [hM] at h2 hl2 ⊢
  have hN' := Lib.hid hN
  have hM' := Lib.hid hM
  have hP' := Lib.hid hP
  clear hN hM hP
  by_cases hne : N = M
  · subst hne
    go_enter Tryz.func64, Tryz.ntmps64
    go_wp2_with fail
    go_loopw [17] (fun i wr => ∃ (j : Nat), j ≤ N ∧ i = .int .i64 j ∧ Hid (is = ys ↔ Tl.dr is j = Tl.dr ys j) ∧ Below w.heap.size w wr) (fun i _ => N - (intOf i).toNat)
    case atStart => exact ⟨0, Nat.zero_le _, rfl, Lib.hid (by rw [Tl.dr_zero, Tl.dr_zero]), Below.refl _ w⟩
    case round =>
      obtain ⟨j, hj, rfl, hd, hb⟩ := hrel
      by_cases hlt : j < N
      · obtain ⟨x, hx⟩ := is.at_some j (by rw [hN'.out]; exact hlt)
        obtain ⟨y, hy⟩ := ys.at_some j (by rw [hM'.out]; exact hlt)
        obtain ⟨g1, o1, P1, r1, I1, i1, B1, b1, rfl, hg1, p0, p1, p2, p3, p4, p5, p6, p7, p8, hd1⟩ := (h1.below hb).at_ hx
        obtain ⟨g2, o2, P2, r2, I2, i2, B2, b2, rfl, hg2, q0, q1, q2, q3, q4, q5, q6, q7, q8, hd2⟩ := (h2.below hb).at_ hy
        have hdr := TM.dr_eq hx hy
        have hba : Below wr.heap.size wr ((wr.alloc (.cells #[.int .i64 x.k, .int .i64 x.n, .string ⟨x.s.toArray⟩, .slice P1 x.ps.length r1, .int .i64 x.d.k, .int .i64 x.d.n, .string ⟨x.d.s.toArray⟩, .slice I1 x.d.is.len i1, .slice B1 x.ks.len b1] 28)).alloc (.cells #[.int .i64 y.k, .int .i64 y.n, .string ⟨y.s.toArray⟩, .slice P2 y.ps.length r2, .int .i64 y.d.k, .int .i64 y.d.n, .string ⟨y.d.s.toArray⟩, .slice I2 y.d.is.len i2, .slice B2 y.ks.len b2] 28)) := ((Below.refl _ wr).alloc (Nat.le_refl _) _).alloc (by simp) _
        have hC := Lib.hid (hP'.out j x hx y _ _ _ _ _ _ _ (hd1.below hba) (hd2.below hba))
        unfold tmv at hC
        have hdr' := Lib.hid hdr
        have hb2 := Lib.hid (hb.trans (hba.mono hb.size))
        have ca : ∀ o, (wr.alloc (.cells #[.int .i64 x.k, .int .i64 x.n, .string ⟨x.s.toArray⟩, .slice P1 x.ps.length r1, .int .i64 x.d.k, .int .i64 x.d.n, .string ⟨x.d.s.toArray⟩, .slice I1 x.d.is.len i1, .slice B1 x.ks.len b1] 28)).cell? ⟨g2, o, none⟩ = wr.cell? ⟨g2, o, none⟩ := fun o => ((Below.refl _ wr).alloc (Nat.le_refl _) _).cell (p := ⟨g2, o, none⟩) hg2
        rw [← ca] at q0 q1 q2 q3 q4 q5 q6 q7 q8
        clear hx hy hd1 hd2 hdr hba ca
        go_wp2_with (
          go_at_call 42
          refine hC.out.mono ?_
          rintro e w5 ⟨r, rfl, hr, hb5⟩
          have hr' := Lib.hid hr
          have hb6 := hb2.out.trans (Below.mono hb5 hb2.out.size)
          clear hr hb5)
        · go_ret
          refine ⟨false, rfl, ?_, hb6⟩
          rw [hd.out, hdr'.out, ← hr'.out]
          simp_all
        · go_roundw
          case rel => exact ⟨j + 1, by omega, by go_num, Lib.hid (by rw [hd.out, hdr'.out, ← hr'.out]; simp_all), hb6⟩
          case measure => simp [intOf]; omega
      · obtain rfl : j = N := by omega
        go_wp2_with fail
        go_ret
        refine ⟨true, rfl, ?_, hb⟩
        rw [hd.out, Tl.dr_end is j (by rw [hN'.out]; exact Nat.le_refl _), Tl.dr_end ys j (by rw [hM'.out]; exact Nat.le_refl _)]
        simp
  · go_enter Tryz.func64, Tryz.ntmps64
    go_wp2_with fail
    go_ret
    refine ⟨false, rfl, ?_, Below.refl _ w⟩
    constructor
    · intro h; simp at h
    · intro h; exact absurd (by rw [← hN'.out, ← hM'.out, h]) hne
set_option maxRecDepth 100000 in
set_option maxHeartbeats 8000000 in
theorem st_step (k n : Int) (s : List UInt8) (ps : List Int) (d : RM.Dm) (ks : Tl) (hP : ∀ i x, ks.at_ i = some x → StOk x) : StOk ⟨k, n, s, ps, d, ks⟩ := by
  intro y w u1 u2 u3 v1 v2 v3 h1 h2
  obtain ⟨k2, n2, s2, ps2, d2, ks2⟩ := y
  have hQ := Lib.hid (fun (w' : World) (hb : Below w.heap.size w w') => equalInts_any ps ps2 w' _ _ (h1.p.below hb) (h2.p.below hb))
  have hD := Lib.hid (fun (w' : World) (hb : Below w.heap.size w w') => sameData_any d d2 w' _ _ (h1.d.below hb) (h2.d.below hb))
  have hE := Lib.hid (fun (w' : World) (hb : Below w.heap.size w w') => equalTerms_any ks ks2 hP w' _ _ (h1.k.below hb) (h2.k.below hb))
  obtain ⟨P1, L1, r1, rfl⟩ : ∃ A m c, u1 = .slice A m c := by obtain ⟨A, c, e⟩ := h1.p.read; exact ⟨_, _, _, e⟩
  obtain ⟨P2, L2, r2, rfl⟩ : ∃ A m c, v1 = .slice A m c := by obtain ⟨A, c, e⟩ := h2.p.read; exact ⟨_, _, _, e⟩
  obtain ⟨I1, J1, i1, rfl⟩ : ∃ A m c, u2 = .slice A m c := by obtain ⟨A, c, e⟩ := h1.d.read; exact ⟨_, _, _, e⟩
  obtain ⟨I2, J2, i2, rfl⟩ : ∃ A m c, v2 = .slice A m c := by obtain ⟨A, c, e⟩ := h2.d.read; exact ⟨_, _, _, e⟩
  obtain ⟨A1, N, c1, rfl⟩ : ∃ A m c, u3 = .slice A m c := by obtain ⟨A, c, e⟩ := h1.k.read; exact ⟨_, _, _, e⟩
  obtain ⟨A2, M, c2, rfl⟩ : ∃ A m c, v3 = .slice A m c := by obtain ⟨A, c, e⟩ := h2.k.read; exact ⟨_, _, _, e⟩
  unfold tmv
  unfold dtv at hD
  simp only at hD ⊢
  have hL1 := (Lies.made w 28 #[.int .i64 k, .int .i64 n, .string ⟨s.toArray⟩, .slice P1 L1 r1, .int .i64 d.k, .int .i64 d.n, .string ⟨d.s.toArray⟩, .slice I1 J1 i1, .slice A1 N c1]).alloc (.cells #[.int .i64 k2, .int .i64 n2, .string ⟨s2.toArray⟩, .slice P2 L2 r2, .int .i64 d2.k, .int .i64 d2.n, .string ⟨d2.s.toArray⟩, .slice I2 J2 i2, .slice A2 M c2] 28)
  have hz1 : (w.alloc (.cells #[.int .i64 k, .int .i64 n, .string ⟨s.toArray⟩, .slice P1 L1 r1, .int .i64 d.k, .int .i64 d.n, .string ⟨d.s.toArray⟩, .slice I1 J1 i1, .slice A1 N c1] 28)).heap.size = w.heap.size + 1 := by simp
  have hL2 := Lies.made (w.alloc (.cells #[.int .i64 k, .int .i64 n, .string ⟨s.toArray⟩, .slice P1 L1 r1, .int .i64 d.k, .int .i64 d.n, .string ⟨d.s.toArray⟩, .slice I1 J1 i1, .slice A1 N c1] 28)) 28 #[.int .i64 k2, .int .i64 n2, .string ⟨s2.toArray⟩, .slice P2 L2 r2, .int .i64 d2.k, .int .i64 d2.n, .string ⟨d2.s.toArray⟩, .slice I2 J2 i2, .slice A2 M c2]
  rw [hz1] at hL2
  have hba : Below w.heap.size w ((w.alloc (.cells #[.int .i64 k, .int .i64 n, .string ⟨s.toArray⟩, .slice P1 L1 r1, .int .i64 d.k, .int .i64 d.n, .string ⟨d.s.toArray⟩, .slice I1 J1 i1, .slice A1 N c1] 28)).alloc (.cells #[.int .i64 k2, .int .i64 n2, .string ⟨s2.toArray⟩, .slice P2 L2 r2, .int .i64 d2.k, .int .i64 d2.n, .string ⟨d2.s.toArray⟩, .slice I2 J2 i2, .slice A2 M c2] 28)) := ((Below.refl _ w).alloc (Nat.le_refl _) _).alloc (by simp) _
  have hiff : ((⟨k, n, s, ps, d, ks⟩ : Tm) = ⟨k2, n2, s2, ps2, d2, ks2⟩) ↔ (k = k2 ∧ n = n2 ∧ s = s2 ∧ ps = ps2 ∧ d = d2 ∧ ks = ks2) := by simp only [Tm.mk.injEq]
  have hiff' := Lib.hid hiff
  clear hP h1 h2 hiff hz1
  by_cases hk : k = k2
  · by_cases hn : n = n2
    · by_cases hs : s = s2
      · subst hk hn hs
        go_enter Tryz.func42, Tryz.ntmps42
        go_wp2_with (first
          | (go_at_call 62
             refine (hQ.out _ hba).mono ?_
             rintro e w5 ⟨rp, rfl, hrp, hb5⟩
             have hrp' := Lib.hid hrp
             have hb6 := hba.trans (Below.mono hb5 hba.size)
             have hM1 := hL1.below hb5 hL1.lt
             have hM2 := hL2.below hb5 hL2.lt
             have x0 := hM1.cell 0
             have x1 := hM1.cell 1
             have x2 := hM1.cell 2
             have x3 := hM1.cell 3
             have x4 := hM1.cell 4
             have x5 := hM1.cell 5
             have x6 := hM1.cell 6
             have x7 := hM1.cell 7
             have x8 := hM1.cell 8
             have y0 := hM2.cell 0
             have y1 := hM2.cell 1
             have y2 := hM2.cell 2
             have y3 := hM2.cell 3
             have y4 := hM2.cell 4
             have y5 := hM2.cell 5
             have y6 := hM2.cell 6
             have y7 := hM2.cell 7
             have y8 := hM2.cell 8
             simp only [List.getElem?_cons_succ, List.getElem?_cons_zero] at x0 x1 x2 x3 x4 x5 x6 x7 x8 y0 y1 y2 y3 y4 y5 y6 y7 y8
             clear hrp hb5)
          | (go_at_call 63
             refine (hD.out _ hb6).mono ?_
             rintro e w7 ⟨rd, rfl, hrd, hb7⟩
             have hrd' := Lib.hid hrd
             have hb8 := hb6.trans (Below.mono hb7 hb6.size)
             have hM3 := hM1.below hb7 hM1.lt
             have hM4 := hM2.below hb7 hM2.lt
             have z8 := hM3.cell 8
             have t8 := hM4.cell 8
             simp only [List.getElem?_cons_succ, List.getElem?_cons_zero] at z8 t8
             clear hrd hb7)
          | (go_at_call 64
             refine (hE.out _ hb8).mono ?_
             rintro e w9 ⟨rk, rfl, hrk, hb9⟩
             have hrk' := Lib.hid hrk
             have hb10 := hb8.trans (Below.mono hb9 hb8.size)
             clear hrk hb9))
        all_goals go_ret
        all_goals
          first
            | exact ⟨_, rfl, by rw [hiff'.out, ← hrp'.out, ← hrd'.out, ← hrk'.out]; simp_all, hb10⟩
            | exact ⟨_, rfl, by rw [hiff'.out, ← hrp'.out, ← hrd'.out]; simp_all, hb8⟩
            | exact ⟨_, rfl, by rw [hiff'.out, ← hrp'.out]; simp_all, hb6⟩
      · obtain ⟨e1, e2, e3⟩ := str_ne hs
        subst hk hn
        have hs' := Lib.hid hs
        clear hs
        go_enter Tryz.func42, Tryz.ntmps42
        go_wp2_with fail
        go_ret
        exact ⟨false, rfl, by first | (simp; done) | (rw [hiff'.out]; simp [hs'.out]), hba⟩
    · subst hk
      have hn' := Lib.hid hn
      go_enter Tryz.func42, Tryz.ntmps42
      go_wp2_with fail
      go_ret
      exact ⟨false, rfl, by first | (simp; done) | (rw [hiff'.out]; simp [hn'.out]), hba⟩
  · have hk' := Lib.hid hk
    go_enter Tryz.func42, Tryz.ntmps42
    go_wp2_with fail
    go_ret
    exact ⟨false, rfl, by first | (simp; done) | (rw [hiff'.out]; simp [hk'.out]), hba⟩
theorem same_any' (x : Tm) : StOk x := Tl.all_one StOk st_step x
end Go.Proofs.YtpiekdcbjkgipaaGreatDoor

/- The law's awake: answers that the document fixes. -/
namespace Go.Proofs.YtpiekdcbjkgipaaGreatDoor
open Go.ChangeShapes Go.WideShapes Go.ChangeAt Go.RowKit Go.Deep
open TM (Tl Tm)

/-- what is owed of Same -/
def SameAny : Prop := ∀ (a b : Tm) (w : World) (u1 u2 u3 v1 v2 v3 : Value), TmIn w a u1 u2 u3 → TmIn w b v1 v2 v3 → TmBd a → TmBd b →
    Calls Tryz.prog 19 #[tmv a u1 u2 u3, tmv b v1 v2 v3] w (BoolIff (TM.okt a = true ∧ TM.okt b = true ∧ TM.alpha a = TM.alpha b) w)
def at0 : Tm := ⟨8, 0, [], [7, 3], ⟨0, 0, [], .nil⟩, .cons 2 3 [] [] ⟨0, 0, [], .nil⟩ .nil .nil⟩
def at1 : Tm := ⟨8, 0, [], [1, 2], ⟨0, 0, [], .nil⟩, .cons 2 2 [] [] ⟨0, 0, [], .nil⟩ .nil .nil⟩
def at2 : Tm := ⟨2, 1, [], [], ⟨0, 0, [], .nil⟩, .nil⟩
theorem at0_ok : TM.okt at0 = true := by decide +kernel
theorem at1_ok : TM.okt at1 = true := by decide +kernel
theorem at2_ok : TM.okt at2 = false := by decide +kernel
theorem at0_al : TM.alpha at0 = at1 := by rfl
theorem at1_al : TM.alpha at1 = at1 := by rfl
theorem at0_tx : TM.ttx at1 = [40, 108, 97, 109, 98, 100, 97, 32, 40, 46, 49, 32, 46, 50, 41, 32, 46, 50, 41] := by decide +kernel
theorem at0_bd : TmBd at0 := ⟨by unfold b64 at0; simp, by unfold b64 at0; simp, by unfold b64 at0; simp, by unfold b64 at0; simp, by unfold b64 at0; simp, trivial, by unfold at0; simp [TBd, Bd, b64]⟩
theorem at1_bd : TmBd at1 := ⟨by unfold b64 at1; simp, by unfold b64 at1; simp, by unfold b64 at1; simp, by unfold b64 at1; simp, by unfold b64 at1; simp, trivial, by unfold at1; simp [TBd, Bd, b64]⟩
theorem at2_bd : TmBd at2 := ⟨by unfold b64 at2; simp, by unfold b64 at2; simp, by unfold at2; simp, by unfold b64 at2; simp, by unfold b64 at2; simp, trivial, trivial⟩
theorem at2_in (w : World) : TmIn w at2 (.slice none 0 0) (.slice none 0 0) (.slice none 0 0) := ⟨PIn.nil w, In.nil w, TIn.nil w⟩
theorem at0_in (w : World) : TmIn ((w.alloc (.cells #[.int .i64 7, .int .i64 3] 3)).alloc (.cells #[.int .i64 2, .int .i64 3, .string ⟨#[]⟩, .slice none 0 0, .int .i64 0, .int .i64 0, .string ⟨#[]⟩, .slice none 0 0, .slice none 0 0] 28)) at0 (.slice (some ⟨w.heap.size, 0, none⟩) 2 2) (.slice none 0 0) (.slice (some ⟨w.heap.size + 1, 0, none⟩) 1 1) := by
  have hz : (w.alloc (.cells #[.int .i64 7, .int .i64 3] 3)).heap.size = w.heap.size + 1 := by simp
  have hA := (Lies.made w 3 #[.int .i64 7, .int .i64 3]).alloc (.cells #[.int .i64 2, .int .i64 3, .string ⟨#[]⟩, .slice none 0 0, .int .i64 0, .int .i64 0, .string ⟨#[]⟩, .slice none 0 0, .slice none 0 0] 28)
  have hB := Lies.made (w.alloc (.cells #[.int .i64 7, .int .i64 3] 3)) 28 #[.int .i64 2, .int .i64 3, .string ⟨#[]⟩, .slice none 0 0, .int .i64 0, .int .i64 0, .string ⟨#[]⟩, .slice none 0 0, .slice none 0 0]
  rw [hz] at hB
  refine ⟨⟨_, _, rfl, by simp [at0], w.heap.size, 0, fun _ => ⟨rfl, hA.lt⟩, fun j x hx => ?_⟩, In.nil _, ⟨_, _, rfl, by simp [at0, Tl.len], w.heap.size + 1, 0, fun _ => rfl, hB.lt, hB.cell 0, hB.cell 1, hB.cell 2, ⟨_, hB.cell 3, PIn.nil _⟩, hB.cell 4, hB.cell 5, hB.cell 6, ⟨_, hB.cell 7, In.nil _⟩, ⟨none, 0, hB.cell 8, by simp [Tl.len], 0, 0, fun h => absurd h (by simp [Tl.len]), trivial⟩, trivial⟩⟩
  rw [Nat.zero_add, hA.cell j]
  match j, hx with
  | 0, hx => simp [at0] at hx; subst hx; rfl
  | 1, hx => simp [at0] at hx; subst hx; rfl
  | j + 2, hx => simp [at0] at hx
set_option maxRecDepth 100000 in
set_option maxHeartbeats 8000000 in
theorem awake10_of (hSame : SameAny) (w : World) (hTab : Tab w) : Calls Tryz.prog 7 #[] w fun e w' => e = .returned (.bool true) ∧ Went w w' := by
  have hT0 := at0_in w
  obtain ⟨Wb, hWb⟩ : ∃ Wb, (w.alloc (.cells #[.int .i64 7, .int .i64 3] 3)).alloc (.cells #[.int .i64 2, .int .i64 3, .string ⟨#[]⟩, .slice none 0 0, .int .i64 0, .int .i64 0, .string ⟨#[]⟩, .slice none 0 0, .slice none 0 0] 28) = Wb := ⟨_, rfl⟩
  have hbb : Below w.heap.size w Wb := by rw [← hWb]; exact ((Below.refl _ w).alloc (Nat.le_refl _) _).alloc (by simp) _
  have hzb : Wb.heap.size = w.heap.size + 2 := by rw [← hWb]; simp
  rw [hWb] at hT0
  have hL := Lies.made Wb 28 #[.int .i64 8, .int .i64 0, .string ⟨#[]⟩, .slice (some ⟨w.heap.size, 0, none⟩) 2 2, .int .i64 0, .int .i64 0, .string ⟨#[]⟩, .slice none 0 0, .slice (some ⟨w.heap.size + 1, 0, none⟩) 1 1]
  obtain ⟨Wc, hWc⟩ : ∃ Wc, Wb.alloc (.cells #[.int .i64 8, .int .i64 0, .string ⟨#[]⟩, .slice (some ⟨w.heap.size, 0, none⟩) 2 2, .int .i64 0, .int .i64 0, .string ⟨#[]⟩, .slice none 0 0, .slice (some ⟨w.heap.size + 1, 0, none⟩) 1 1] 28) = Wc := ⟨_, rfl⟩
  have hbc : Below w.heap.size w Wc := by rw [← hWc]; exact hbb.alloc hbb.size _
  have hT1 : TmIn Wc at0 (.slice (some ⟨w.heap.size, 0, none⟩) 2 2) (.slice none 0 0) (.slice (some ⟨w.heap.size + 1, 0, none⟩) 1 1) := by rw [← hWc]; exact hT0.below ((Below.refl _ Wb).alloc (Nat.le_refl _) _)
  rw [hWc, hzb] at hL
  have hAl := Lib.hid (alpha_any at0 Wc _ _ _ hT1 at0_bd)
  have hTx := Lib.hid (fun (w' : World) (hb : Below w.heap.size w w') (hc : Below Wc.heap.size Wc w') => by
    have h := ttext_any at0 w' _ _ _ (hT1.below hc) at0_bd (hTab.on hb)
    rw [at0_ok, if_pos rfl, at0_al, at0_tx] at h
    exact h)
  have hTy := Lib.hid (fun (w' : World) (hb : Below w.heap.size w w') => by
    have h := ttext_any at2 w' _ _ _ (at2_in w') at2_bd (hTab.on hb)
    rw [at2_ok, if_neg (by decide)] at h
    exact h)
  have hSm := Lib.hid (fun (w' : World) (hc : Below Wc.heap.size Wc w') (vp vi vk : Value) (h1 : TmIn w' at1 vp vi vk) => hSame at0 at1 w' _ _ _ vp vi vk (hT1.below hc) h1 at0_bd at1_bd)
  have hCk := Lib.hid (fun (w' : World) (hc : Below Wc.heap.size Wc w') => by
    have h := tcheck_any at0 w' _ _ _ (hT1.below hc) at0_bd
    rw [at0_ok, show chv true = Value.nilIface from rfl] at h
    exact h)
  unfold AlN at hAl
  rw [at0_al] at hAl
  unfold tmv at hAl hTx hTy hSm hCk
  unfold chv at hTx hTy
  simp only [at0, at1, at2] at hAl hTx hTy hSm hCk
  clear hT0 hT1 hTab hSame hbb
  have y0 := hL.cell 0
  have y1 := hL.cell 1
  have y2 := hL.cell 2
  have y3 := hL.cell 3
  have y4 := hL.cell 4
  have y5 := hL.cell 5
  have y6 := hL.cell 6
  have y7 := hL.cell 7
  have y8 := hL.cell 8
  simp only [List.getElem?_cons_succ, List.getElem?_cons_zero] at y0 y1 y2 y3 y4 y5 y6 y7 y8
  go_enter Tryz.func7, Tryz.ntmps7
  go_wp2_with (first
    | (go_at_call 15
       refine hAl.out.mono ?_
       rintro e w5 ⟨h5, -, hb5⟩
       obtain ⟨vp5, vi5, vk5, rfl, hT5⟩ := h5 at0_ok
       obtain ⟨P5, p5, e5⟩ := hT5.p.read
       have e5' : vp5 = .slice P5 2 p5 := e5
       subst e5'
       obtain ⟨I5, q5, e6⟩ := hT5.d.read
       have e6' : vi5 = .slice I5 0 q5 := e6
       subst e6'
       obtain ⟨K5, r5, e7⟩ := hT5.k.read
       have e7' : vk5 = .slice K5 1 r5 := e7
       subst e7'
       have hT5' : TmIn w5 at1 (.slice P5 2 p5) (.slice I5 0 q5) (.slice K5 1 r5) := hT5
       obtain ⟨bp, op, rfl, hbp, u1⟩ := PIn.cell (l := [1, 2]) hT5'.p (j := 1) (x := 2) rfl
       obtain ⟨bk, ok, Pk, pk, Ik, qk, Kk, rk, rfl, hbk, -, u2, -⟩ := TIn.at_ (t := at1.ks) hT5'.k (i := 0) (x := ⟨2, 2, [], [], ⟨0, 0, [], .nil⟩, .nil⟩) rfl
       have u2' : w5.cell? ⟨bk, ok + 1, none⟩ = some (.int .i64 2) := by simpa using u2
       have hL6 := (hL.below hb5 hL.lt).alloc (.cells #[.int .i64 8, .int .i64 0, .string ⟨#[]⟩, .slice (some ⟨bp, op, none⟩) 2 p5, .int .i64 0, .int .i64 0, .string ⟨#[]⟩, .slice I5 0 q5, .slice (some ⟨bk, ok, none⟩) 1 r5] 28)
       have hM6 := Lies.made w5 28 #[.int .i64 8, .int .i64 0, .string ⟨#[]⟩, .slice (some ⟨bp, op, none⟩) 2 p5, .int .i64 0, .int .i64 0, .string ⟨#[]⟩, .slice I5 0 q5, .slice (some ⟨bk, ok, none⟩) 1 r5]
       have hc6 : Below Wc.heap.size Wc (w5.alloc (.cells #[.int .i64 8, .int .i64 0, .string ⟨#[]⟩, .slice (some ⟨bp, op, none⟩) 2 p5, .int .i64 0, .int .i64 0, .string ⟨#[]⟩, .slice I5 0 q5, .slice (some ⟨bk, ok, none⟩) 1 r5] 28)) := Below.alloc hb5 hb5.size _
       have hb6 : Below w.heap.size w (w5.alloc (.cells #[.int .i64 8, .int .i64 0, .string ⟨#[]⟩, .slice (some ⟨bp, op, none⟩) 2 p5, .int .i64 0, .int .i64 0, .string ⟨#[]⟩, .slice I5 0 q5, .slice (some ⟨bk, ok, none⟩) 1 r5] 28)) := hbc.trans (hc6.mono hbc.size)
       have ha6 : Below w5.heap.size w5 (w5.alloc (.cells #[.int .i64 8, .int .i64 0, .string ⟨#[]⟩, .slice (some ⟨bp, op, none⟩) 2 p5, .int .i64 0, .int .i64 0, .string ⟨#[]⟩, .slice I5 0 q5, .slice (some ⟨bk, ok, none⟩) 1 r5] 28)) := (Below.refl _ w5).alloc (Nat.le_refl _) _
       have x0 := hL6.cell 0
       have x1 := hL6.cell 1
       have x2 := hL6.cell 2
       have x3 := hL6.cell 3
       have x4 := hL6.cell 4
       have x5 := hL6.cell 5
       have x6 := hL6.cell 6
       have x7 := hL6.cell 7
       have x8 := hL6.cell 8
       simp only [List.getElem?_cons_succ, List.getElem?_cons_zero] at x0 x1 x2 x3 x4 x5 x6 x7 x8
       have hlt5 := hL6.lt
       have hT5'' := Lib.hid hT5'
       clear hb5 h5 hT5 hT5' e5 e6 e7 u2 y0 y1 y2 y3 y4 y5 y6 y7 y8)
    | (go_at_call 16
       with_reducible refine (hTx.out _ hb6 hc6).mono ?_
       rintro e w7 ⟨rfl, hb7⟩
       have hL8 := hL6.below hb7 hL6.lt
       have hM8 := hM6.below hb7 hM6.lt
       have hc8 := hc6.trans (Below.mono hb7 hc6.size)
       have hb8 := hb6.trans (Below.mono hb7 hb6.size)
       have ha8 := ha6.trans (Below.mono hb7 ha6.size)
       clear hb7 x0 x1 x2 x3 x4 x5 x6 x7 x8)
    | (go_at_call 16
       refine (hTy.out _ hb8).mono ?_
       rintro e w9 ⟨rfl, hb9⟩
       have hL10 := hL8.below hb9 hL8.lt
       have hM10 := hM8.below hb9 hM8.lt
       have hc10 := hc8.trans (Below.mono hb9 hc8.size)
       have hb10 := hb8.trans (Below.mono hb9 hb8.size)
       have ha10 := ha8.trans (Below.mono hb9 ha8.size)
       have v1 := (ha10.cell (p := ⟨bp, op + 1, none⟩) hbp).trans u1
       have v2 := (ha10.cell (p := ⟨bk, ok + 1, none⟩) hbk).trans u2'
       have x0 := hL10.cell 0
       have x1 := hL10.cell 1
       have x2 := hL10.cell 2
       have x3 := hL10.cell 3
       have x4 := hL10.cell 4
       have x5 := hL10.cell 5
       have x6 := hL10.cell 6
       have x7 := hL10.cell 7
       have x8 := hL10.cell 8
       have z0 := hM10.cell 0
       have z1 := hM10.cell 1
       have z2 := hM10.cell 2
       have z3 := hM10.cell 3
       have z4 := hM10.cell 4
       have z5 := hM10.cell 5
       have z6 := hM10.cell 6
       have z7 := hM10.cell 7
       have z8 := hM10.cell 8
       simp only [List.getElem?_cons_succ, List.getElem?_cons_zero] at x0 x1 x2 x3 x4 x5 x6 x7 x8 z0 z1 z2 z3 z4 z5 z6 z7 z8
       have hT10 := Lib.hid (TmIn.below hT5''.out ha10)
       clear hb9)
    | (go_at_call 14; refine (is_same _ _).mono ?_; rintro e w13 ⟨rfl, rfl⟩)
    | (go_at_call 19
       refine (hSm.out _ hc10 _ _ _ hT10.out).mono ?_
       rintro e w11 ⟨r, rfl, hr, hb11⟩
       obtain rfl : r = true := hr.2 ⟨at0_ok, at1_ok, at0_al.trans at1_al.symm⟩
       have hL12 := hL10.below hb11 hL10.lt
       have hc12 := hc10.trans (Below.mono hb11 hc10.size)
       have hb12 := hb10.trans (Below.mono hb11 hb10.size)
       have q0 := hL12.cell 0
       have q1 := hL12.cell 1
       have q2 := hL12.cell 2
       have q3 := hL12.cell 3
       have q4 := hL12.cell 4
       have q5 := hL12.cell 5
       have q6 := hL12.cell 6
       have q7 := hL12.cell 7
       have q8 := hL12.cell 8
       simp only [List.getElem?_cons_succ, List.getElem?_cons_zero] at q0 q1 q2 q3 q4 q5 q6 q7 q8
       clear hr hb11 x0 x1 x2 x3 x4 x5 x6 x7 x8 z0 z1 z2 z3 z4 z5 z6 z7 z8)
    | (go_at_call 9
       refine (hCk.out _ hc12).mono ?_
       rintro e w14 ⟨rfl, hb14⟩))
  go_ret
  exact ⟨rfl, hb12.trans (Below.mono hb14 hb12.size)⟩
end Go.Proofs.YtpiekdcbjkgipaaGreatDoor
