/- Package term: term, walked: a term with the numbers that its locals get. -/
import Derived.Test.YtpiekdcbjkgipaaGreatQ19
import Derived.Deep.RegionHeld3
import Derived.Deep.RegionWith
namespace Go.Proofs.YtpiekdcbjkgipaaGreat
open Go.ChangeShapes Go.WideShapes Go.ChangeAt Go.RowKit Go.Deep
open TM (Tl Tm)

def NumN (w0 : World) (q : Nat) (met l : List Int) (t : Tm) (vi : Value) (w : World) (e : Ending) (w' : World) : Prop :=
  ∃ vp' vk', e = .returned (tmv (TM.nm1 l t) vp' vi vk') ∧ TmOwn w' (fun g => g < w0.heap.size) (fun g => w.heap.size ≤ g) (TM.nm1 l t) vp' vi vk' ∧ Im w' q (met ++ (t.ps ++ TM.prs t.ks)).length (TM.pl (met ++ (t.ps ++ TM.prs t.ks))) ∧ Turns (fun g => g = q) w w'
def NtOk (t : Tm) : Prop := ∀ (w0 w : World) (q : Nat) (met bd l : List Int) (vp vi vk : Value), TmIn w0 t vp vi vk → TmBd t → Below w0.heap.size w0 w → w0.heap.size ≤ q → Im w q met.length (TM.pl met) → (∀ x, bd.contains x = true → met.contains x = true) →
  TM.ok1 bd t = true → TM.frs met (t.ps ++ TM.prs t.ks) = true → (∃ r, l = met ++ (t.ps ++ TM.prs t.ks) ++ r) → (met ++ (t.ps ++ TM.prs t.ks)).length ≤ 1000000 → TM.sz t.ks ≤ 5000 →
  Calls Tryz.prog 36 #[.map (some q), tmv t vp vi vk] w (NumN w0 q met l t vi w)
namespace TM
theorem fit_local {bd : List Int} {t : Tm} (h : fit bd t = true) (hk : t.k = 2 ∨ t.k = 4) : bd.contains t.n = true := by
  unfold fit at h
  rcases hk with hk | hk
  · simp [hk] at h; simp; exact h.1.2
  · simp [hk] at h; simp; exact h.1.2
theorem rtl_in : ∀ {bd : List Int} {d : Tl} {i : Nat} {x : Tm}, rtl bd d = true → d.at_ i = some x → fit bd x = true ∧ rtl (bd ++ x.ps) x.ks = true
  | bd, .nil, i, x, _, h => by simp [Tl.at_] at h
  | bd, .cons k n s ps d ks r, 0, x, hr, h => by
    simp only [Tl.at_, Option.some.injEq] at h
    subst h
    simp only [rtl, Bool.and_eq_true] at hr
    exact hr.1
  | bd, .cons k n s ps d ks r, i + 1, x, hr, h => by
    simp only [rtl, Bool.and_eq_true] at hr
    exact rtl_in hr.2 (show r.at_ i = some x from h)
end TM
set_option maxRecDepth 100000 in
set_option maxHeartbeats 8000000 in
theorem nt_other (k n : Int) (s : List UInt8) (ps : List Int) (d : RM.Dm) (ks : Tl) (hR : ∀ i x, ks.at_ i = some x → NtOk x) (h4 : ¬ k = 4) (h2 : ¬ k = 2) : NtOk ⟨k, n, s, ps, d, ks⟩ := by
  intro w0 w q met bd l vp vi vk hT hB hb hq hI hbm hok hfr hl hlen hsz
  obtain ⟨P3, p3, rfl⟩ := hT.p.read
  obtain ⟨I7, q7, rfl⟩ := hT.d.read
  obtain ⟨A1, c1, rfl⟩ := hT.k.read
  have hTk := hT.k
  have hkl := TM.len_sz ks
  simp only at hTk hlen hsz hfr hl hok ⊢
  obtain ⟨csk, hraw, htr⟩ := hTk.raw
  rw [TM.ok1, Bool.and_eq_true] at hok
  have hfb := @TM.fit_local bd ⟨k, n, s, ps, d, ks⟩ hok.1
  rw [TM.frs_app, Bool.and_eq_true] at hfr
  have hlen' : met.length + ps.length + (TM.prs ks).length ≤ 1000000 := by
    have := hlen
    simp only [List.length_append] at this
    omega
  have hBi := Lib.hid (fun (w' : World) (hb' : Below w0.heap.size w0 w') (hI' : Im w' q met.length (TM.pl met)) => bind_any q met ps w0 w' _ hT.p hb' hq hI' hfr.1 hB.p (by omega))
  have hCl := Lib.hid (fun (w' : World) (hb' : Below w0.heap.size w0 w') => cloneT A1 ks.len c1 csk w' ⟨hraw.1, hraw.2.1, fun a ha j u hu => by
      have h1 := hraw.2.2.1 a ha j u hu
      exact (Agr.of_below hb').all (World.block_lt_of_cell? w0 _ h1) ▸ h1, hraw.2.2.2⟩ (by omega))
  have hNtR := Lib.hid htr
  obtain ⟨N, hN⟩ : ∃ N, ks.len = N := ⟨_, rfl⟩
  obtain ⟨L3, hL3⟩ : ∃ x, ps.length = x := ⟨_, rfl⟩
  obtain ⟨L7, hL7⟩ : ∃ x, d.is.len = x := ⟨_, rfl⟩
  have hps := hT.p
  have hBk := hB.ks
  have hBn := hB.n
  have hTd := hT.d
  simp only at hps hBk hBn hTd hfb
  unfold tmv
  simp only
  have hN63 := hTk.len
  rw [hN, hL3, hL7]
  rw [hN] at hCl hTk hN63
  simp only [hL3] at hBi
  obtain ⟨r, hl⟩ := hl
  have hql := hI.lt
  have hL := (Lies.made w 28 #[.int .i64 k, .int .i64 n, .string ⟨s.toArray⟩, .slice P3 L3 p3, .int .i64 d.k, .int .i64 d.n, .string ⟨d.s.toArray⟩, .slice I7 L7 q7, .slice A1 N c1]).alloc (.cells #[.int .i64 0, .int .i64 0, .string ⟨#[]⟩, .slice none 0 0, .int .i64 0, .int .i64 0, .string ⟨#[]⟩, .slice none 0 0, .slice none 0 0] 28)
  have hz1 : (w.alloc (.cells #[.int .i64 k, .int .i64 n, .string ⟨s.toArray⟩, .slice P3 L3 p3, .int .i64 d.k, .int .i64 d.n, .string ⟨d.s.toArray⟩, .slice I7 L7 q7, .slice A1 N c1] 28)).heap.size = w.heap.size + 1 := by simp
  have hLr := Lies.made (w.alloc (.cells #[.int .i64 k, .int .i64 n, .string ⟨s.toArray⟩, .slice P3 L3 p3, .int .i64 d.k, .int .i64 d.n, .string ⟨d.s.toArray⟩, .slice I7 L7 q7, .slice A1 N c1] 28)) 28 #[.int .i64 0, .int .i64 0, .string ⟨#[]⟩, .slice none 0 0, .int .i64 0, .int .i64 0, .string ⟨#[]⟩, .slice none 0 0, .slice none 0 0]
  rw [hz1] at hLr
  have hba : Below w.heap.size w ((w.alloc (.cells #[.int .i64 k, .int .i64 n, .string ⟨s.toArray⟩, .slice P3 L3 p3, .int .i64 d.k, .int .i64 d.n, .string ⟨d.s.toArray⟩, .slice I7 L7 q7, .slice A1 N c1] 28)).alloc (.cells #[.int .i64 0, .int .i64 0, .string ⟨#[]⟩, .slice none 0 0, .int .i64 0, .int .i64 0, .string ⟨#[]⟩, .slice none 0 0, .slice none 0 0] 28)) :=
    ((Below.refl _ w).alloc (Nat.le_refl _) _).alloc (by simp) _
  have hb1 := hb.trans (hba.mono hb.size)
  have hI1 := Lib.hid (hI.below hba)
  have hT1 := Lib.hid (Turns.of_below hba (fun g => g = q))
  have hq0 : w.heap.size ≠ q := by omega
  have hq1 : w.heap.size + 1 ≠ q := by omega
  have hN' := Lib.hid hN
  have hL3' := Lib.hid hL3
  have hL7' := Lib.hid hL7
  have hR' := Lib.hid hR
  have hl' := Lib.hid hl
  have hbm' := Lib.hid hbm
  have hok' := Lib.hid hok.2
  have hfr' := Lib.hid hfr.2
  have hfr1' := Lib.hid hfr.1
  have hlen2 := Lib.hid hlen'
  have hsz' := Lib.hid hsz
  have hTd' := Lib.hid hTd
  have hwq := hb.size
  clear hT hB hI hN hL3 hL7 hR hl hbm hok hfr hba hz1 hlen hlen' hsz hkl htr hraw hTd
  clear hfb
  go_enter Tryz.func36, Tryz.ntmps36
  go_wp2_with (first
    | (go_at_call 55
       refine (hBi.out _ hb1 hI1.out).mono ?_
       rintro e w2 ⟨v2, rfl, hO2, hI2, hT2⟩
       obtain ⟨B2, m2, c2, rfl⟩ : ∃ B m c, v2 = .slice B m c := by obtain ⟨A, c, e, -⟩ := hO2.read; exact ⟨_, _, _, e⟩
       have hM2 := hL.turns hT2 hq0
       have hMr2 := hLr.turns hT2 hq1
       have hM3 := hM2.stored 3 (.slice B2 m2 c2)
       have hMr3 := hMr2.far (p := ⟨w.heap.size, 3, none⟩) (by simp) (.slice B2 m2 c2)
       have f3 := hM2.free 3
       have x3 := hM2.cell 3
       have hI3 := hI2.turns ((Turns.refl (fun k => k = w.heap.size) w2).setCell (p := ⟨w.heap.size, 3, none⟩) (fun _ => rfl) (.slice B2 m2 c2)) (fun h => hq0 h.symm)
       have hO3 := Lib.hid (hO2.turns ((Turns.refl (fun k => k = w.heap.size) w2).setCell (p := ⟨w.heap.size, 3, none⟩) (fun _ => rfl) (.slice B2 m2 c2)) (fun g hg hh => by have := (hO2.lt g hg).1; simp at this; omega))
       have hT3 := Lib.hid ((hT1.out.then hT2 (fun _ _ h => h)).setCell (p := ⟨w.heap.size, 3, none⟩) (fun h => absurd h (Nat.lt_irrefl _)) (.slice B2 m2 c2))
       have y0 := hM3.cell 0
       have hM4 := hM3
       have hMr4 := hMr3
       have hI4 := hI3
       have hO4 := hO3
       have hT4 := hT3
       have z8 := hM4.cell 8
       have hb4 := Lib.hid (below_of_turns hb hT4.out hq)
       have hI4' := Lib.hid hI4
       simp only [List.getElem?_cons_succ, List.getElem?_cons_zero, List.set_cons_succ, List.set_cons_zero] at x3 y0 z8
       clear hT2 hO2 hI2 hI3 hI4 hM2 hMr2 hMr3)
    | (go_at_call 56
       refine (hCl.out _ hb4.out).mono ?_
       rintro e w5 ⟨v5, rfl, hO5, hb5⟩
       have hM5 := hM4.below hb5 hM4.lt
       have hMr5 := hMr4.below hb5 hMr4.lt
       have x8 := hM5.cell 8
       have f8 := hM5.free 8
       have hlt5 := hM5.lt
       obtain ⟨B5, c5, rfl, -⟩ := own_read hO5
       have hM6 := hM5.stored 8 (.slice B5 N c5)
       have hMr6 := hMr5.far (p := ⟨w.heap.size, 8, none⟩) (by simp) (.slice B5 N c5)
       have w8 := hM6.cell 8
       simp only [List.getElem?_cons_succ, List.getElem?_cons_zero, List.set_cons_succ, List.set_cons_zero] at x8 w8))
  simp only [List.set_cons_succ, List.set_cons_zero] at hM6
  have hTs := (Turns.refl (fun k => k = w.heap.size) w5).setCell (p := ⟨w.heap.size, 8, none⟩) (fun _ => rfl) (.slice B5 N c5)
  have hlt4 := hM4.lt
  have hlt4r := hMr4.lt
  have hZ5 := hb5.size
  have hO6 := Lib.hid (own_turns hO5 hTs (fun g hg hh => by have := (World.ownsRow.lt hO5 g hg).1; omega))
  have hOz := Lib.hid (fun g hg => (World.ownsRow.lt hO5 g hg))
  have hI6 := Lib.hid ((hI4'.out.below hb5).turns hTs (fun h => hq0 h.symm))
  have hB6 := Lib.hid ((hO4.out.below hb5).turns hTs (fun g hg hh => by have := (hO4.out.lt g hg).1; simp at this; omega))
  have hBz := Lib.hid (fun g hg => (hO4.out.lt g hg))
  have hT6 := Lib.hid ((hT4.out.then (Turns.of_below hb5 (fun _ => False)) (fun _ _ h => h.elim)).setCell (p := ⟨w.heap.size, 8, none⟩) (fun h => absurd h (Nat.lt_irrefl _)) (.slice B5 N c5))
  obtain ⟨Z, hZ⟩ : ∃ Z, w5.heap.size = Z := ⟨_, rfl⟩
  rw [hZ] at hZ5
  have hZ' := Lib.hid hZ
  clear hO5 hb5 hTs hM4 hMr4 hM5 hMr5 hM3 hL hLr hBi hCl hb1 hI1 hT1 hI4' hb4 hT4 hO4 hZ hT3 hO3 y0
  go_loopw [30] (fun i wr => ∃ (j : Nat) (csd csr : List Value), j ≤ N ∧ i = .int .i64 j ∧ wr.ownsRow 0 28 9 (.slice B5 N c5) N (csd ++ csr) ∧ TAt wr (fun g => g < w0.heap.size) (TM.nmt l (ks.tk j)) (fun g => Z ≤ g) csd ∧ TRaw w0 (ks.dr j) csr ∧ Im wr q (met ++ ps ++ TM.prs (ks.tk j)).length (TM.pl (met ++ ps ++ TM.prs (ks.tk j)))
      ∧ Own wr 0 (.slice B2 m2 c2) (ps.map (TM.pl (met ++ ps))) ∧ Lies wr w.heap.size 28 [.int .i64 k, .int .i64 n, .string ⟨s.toArray⟩, .slice B2 m2 c2, .int .i64 d.k, .int .i64 d.n, .string ⟨d.s.toArray⟩, .slice I7 L7 q7, .slice B5 N c5] ∧ Lies wr (w.heap.size + 1) 28 [.int .i64 0, .int .i64 0, .string ⟨#[]⟩, .slice none 0 0, .int .i64 0, .int .i64 0, .string ⟨#[]⟩, .slice none 0 0, .slice none 0 0] ∧ Turns (fun g => g = q) w wr ∧ Z ≤ wr.heap.size) (fun i _ => N - (intOf i).toNat)
  case atStart =>
    refine ⟨0, [], csk, Nat.zero_le _, rfl, own_base hO6.out (Nat.zero_le _), ?_, ?_, ?_, hB6.out.base (Nat.zero_le _), hM6, hMr6, hT6.out, by rw [← hZ'.out]; simp⟩
    · rw [Tl.tk_zero]; rfl
    · rw [Tl.dr_zero]; exact hNtR.out
    · rw [Tl.tk_zero]
      simp only [TM.prs, List.append_nil, List.length_append]
      exact hI6.out
  case round =>
    obtain ⟨j, csd, csr, hj, rfl, hOr, hAt, hRw, hIr, hBr, hMb, hMr, hTr, hZr⟩ := hrel
    have hOr' := Lib.hid hOr
    have hAt' := Lib.hid hAt
    have hRw' := Lib.hid hRw
    have hIr' := Lib.hid hIr
    have hBr' := Lib.hid hBr
    have hTr' := Lib.hid hTr
    have y8 : wr.cell? ⟨w.heap.size, 8, none⟩ = some (.slice B5 N c5) := hMb.cell 8
    clear hI6 hT6 hM6 hMr6 hOr hAt hRw hIr hBr hTr w8 x8
    by_cases hlt : j < N
    · obtain ⟨x, hx⟩ := ks.at_some j (by rw [hN'.out]; exact hlt)
      obtain ⟨vp5, vi5, vk5, csq, hcs, hT5, hRw2⟩ := hRw'.out.at_ hx
      obtain ⟨P5, p5, rfl⟩ := hT5.p.read
      obtain ⟨I5, q5, rfl⟩ := hT5.d.read
      obtain ⟨K5, r5, rfl⟩ := hT5.k.read
      have hcl : csd.length = j * 9 := by have h1 := hAt'.out.len; rw [TM.nmt_len, Tl.tk_len ks j (by rw [hN'.out]; exact hj)] at h1; exact h1
      subst hcs
      have hOr2 := hOr'.out
      obtain ⟨A9, c9, e9, hrd⟩ := own_read hOr2
      obtain ⟨g, hB9, -, hg2, hg0⟩ := hrd (j * 9) (by omega)
      have hB5 : B5 = some ⟨g, 0, none⟩ := by injection e9 with e; rw [e, hB9]
      subst hB5
      have rc : ∀ i u, (tcells x (.slice P5 x.ps.length p5) (.slice I5 x.d.is.len q5) (.slice K5 x.ks.len r5))[i]? = some u → i < 9 → wr.cell? ⟨g, j * 9 + i, none⟩ = some u := fun i u hu hi => by
        rw [hOr2.cellAt (j * 9 + i) (by omega), List.getElem?_append_right (by omega), hcl, Nat.add_sub_cancel_left, List.getElem?_append_left (by simp [tcells]; omega)]
        exact hu
      have c10 := rc 0 _ rfl (by omega)
      have c11 := rc 1 _ rfl (by omega)
      have c12 := rc 2 _ rfl (by omega)
      have c13 := rc 3 _ rfl (by omega)
      have c14 := rc 4 _ rfl (by omega)
      have c15 := rc 5 _ rfl (by omega)
      have c16 := rc 6 _ rfl (by omega)
      have c17 := rc 7 _ rfl (by omega)
      have c18 := rc 8 _ rfl (by omega)
      rw [Nat.add_zero] at c10
      have hfrz : ∀ i, wr.frozen? ⟨g, i, none⟩ = false := fun i => hOr2.frozenAt i
      have hgz : g < Z := by rw [← hZ'.out]; exact (hOz.out g rfl).2
      have hgw : w.heap.size + 1 < g := by have := (hOz.out g rfl).1; omega
      have hps1 : TM.prs ks = TM.prs (ks.tk j) ++ (x.ps ++ TM.prs x.ks) ++ TM.prs (ks.dr (j + 1)) := by
        rw [← Tl.tk_dr ks j, TM.prs_app, TM.prs_at hx, List.append_assoc, List.append_assoc]
        rw [Tl.tk_dr ks j]
      have htk := Tl.tk_snoc ks j x hx
      have hpt : TM.prs (ks.tk (j + 1)) = TM.prs (ks.tk j) ++ (x.ps ++ TM.prs x.ks) := by rw [htk, TM.prs_snoc]
      have hrx := TM.rtl_in hok'.out hx
      have hfx : TM.frs (met ++ ps ++ TM.prs (ks.tk j)) (x.ps ++ TM.prs x.ks) = true := by
        have := hfr'.out
        rw [hps1, TM.frs_app, Bool.and_eq_true, TM.frs_app, Bool.and_eq_true] at this
        exact this.1.2
      have hbb : ∀ y, (bd ++ ps).contains y = true → (met ++ ps ++ TM.prs (ks.tk j)).contains y = true := fun y hy => by
        have h2 := hbm'.out y
        simp at hy h2 ⊢
        rcases hy with hy | hy
        · exact .inl (h2 hy)
        · exact .inr (.inl hy)
      have hlx : ∃ r', l = met ++ ps ++ TM.prs (ks.tk j) ++ (x.ps ++ TM.prs x.ks) ++ r' := ⟨TM.prs (ks.dr (j + 1)) ++ r, by rw [hl'.out, hps1]; simp only [List.append_assoc]⟩
      have hnx : (met ++ ps ++ TM.prs (ks.tk j) ++ (x.ps ++ TM.prs x.ks)).length ≤ 1000000 := by
        have h1 := hlen2.out
        rw [hps1] at h1
        simp only [List.length_append] at h1 ⊢
        omega
      have hzx : TM.sz x.ks ≤ 5000 := by have h1 := TM.sz_in hx; have := hsz'.out; omega
      have hC := Lib.hid (fun (w' : World) (hb' : Below w0.heap.size w0 w') (hI' : Im w' q (met ++ ps ++ TM.prs (ks.tk j)).length (TM.pl (met ++ ps ++ TM.prs (ks.tk j)))) => hR'.out j x hx w0 w' q _ (bd ++ ps) l _ _ _ hT5 (hBk.at_ hx) hb' hq hI' hbb (by rw [TM.ok1, hrx.1, hrx.2]; rfl) hfx hlx hnx hzx)
      have hKa : Below wr.heap.size wr (wr.alloc (.cells #[.int .i64 x.k, .int .i64 x.n, .string ⟨x.s.toArray⟩, .slice P5 x.ps.length p5, .int .i64 x.d.k, .int .i64 x.d.n, .string ⟨x.d.s.toArray⟩, .slice I5 x.d.is.len q5, .slice K5 x.ks.len r5] 28)) := (Below.refl _ wr).alloc (Nat.le_refl _) _
      have hkb := below_of_turns hb (hTr'.out.then (Turns.of_below hKa (fun _ => False)) (fun _ _ h => h.elim)) hq
      have hIk := Lib.hid (hIr'.out.below hKa)
      have hMk := Lies.made wr 28 #[.int .i64 x.k, .int .i64 x.n, .string ⟨x.s.toArray⟩, .slice P5 x.ps.length p5, .int .i64 x.d.k, .int .i64 x.d.n, .string ⟨x.d.s.toArray⟩, .slice I5 x.d.is.len q5, .slice K5 x.ks.len r5]
      unfold NumN tmv at hC
      have hpt' := Lib.hid hpt
      have htk' := Lib.hid htk
      have hRw3 := Lib.hid hRw2
      have hcl' := Lib.hid hcl
      have hx' := Lib.hid hx
      have hOr3 := Lib.hid hOr2
      have hKa' := Lib.hid hKa
      clear rc hrd hps1 htk hpt hrx hfx hbb hlx hnx hzx hT5 hRw2 hcl hx hOr2 hB9 hg0 hRw' e9 hOr' hKa
      go_wp2_with fail
      have hkq : wr.heap.size ≠ q := by omega
      have hkb2 := below_drew1 hkb
      have hbw : w.heap.size < wr.heap.size := by omega
      go_region_with (
        go_at_call 36
        refine (hC.out _ hkb2 hIk.out.drew).mono ?_
        rintro e w7 ⟨vp6, vk6, rfl, hTo, hI7, hT7⟩
        obtain ⟨P6, m6, p6, rfl⟩ : ∃ A m c, vp6 = .slice A m c := by obtain ⟨A, c, e⟩ := hTo.tmin.p.read; exact ⟨_, _, _, e⟩
        obtain ⟨K6, n6, r6, rfl⟩ : ∃ A m c, vk6 = .slice A m c := by obtain ⟨A, c, e⟩ := hTo.tmin.k.read; exact ⟨_, _, _, e⟩
        have hMb7 := (hMb.alloc (.cells #[.int .i64 x.k, .int .i64 x.n, .string ⟨x.s.toArray⟩, .slice P5 x.ps.length p5, .int .i64 x.d.k, .int .i64 x.d.n, .string ⟨x.d.s.toArray⟩, .slice I5 x.d.is.len q5, .slice K5 x.ks.len r5] 28)).drew.turns hT7 hq0
        have k8 : w7.cell? ⟨w.heap.size, 8, none⟩ = some (.slice (some ⟨g, 0, none⟩) N c5) := hMb7.cell 8
        have hOr7 := own_turns hOr3.out ((Turns.of_below hKa'.out (fun k => k = q)).drew.then hT7 (fun _ _ h => h)) (fun g' hg' hh => by have e : some g = some g' := hg'; injection e with e; omega)
        have hfr7 : ∀ i, w7.frozen? ⟨g, i, none⟩ = false := fun i => hOr7.frozenAt i
        have rc7 : ∀ i u, (tcells x (.slice P5 x.ps.length p5) (.slice I5 x.d.is.len q5) (.slice K5 x.ks.len r5))[i]? = some u → i < 9 → w7.cell? ⟨g, j * 9 + i, none⟩ = some u := fun i u hu hi => by
          rw [hOr7.cellAt (j * 9 + i) (by omega), List.getElem?_append_right (by rw [hcl'.out]; omega), hcl'.out, Nat.add_sub_cancel_left, List.getElem?_append_left (by simp [tcells]; omega)]
          exact hu
        have e10 := rc7 0 _ rfl (by omega)
        have e11 := rc7 1 _ rfl (by omega)
        have e12 := rc7 2 _ rfl (by omega)
        have e13 := rc7 3 _ rfl (by omega)
        have e14 := rc7 4 _ rfl (by omega)
        have e15 := rc7 5 _ rfl (by omega)
        have e16 := rc7 6 _ rfl (by omega)
        have e17 := rc7 7 _ rfl (by omega)
        have e18 := rc7 8 _ rfl (by omega)
        rw [Nat.add_zero] at e10
        have R7 := Lib.hid (And.intro hTo (And.intro hI7 (And.intro hT7 (And.intro hOr7 hMb7))))
        clear hTo hI7 hT7 hMb7 hOr7 rc7)
      all_goals
        clear k8 hfr7 e10 e11 e12 e13 e14 e15 e16 e17 e18
        obtain ⟨hTo, hI7, hT7, hOr7, hMb7⟩ := R7.out
        have Ta : Turns (fun k => k = q ∨ k = g) wr w7 := ((Turns.of_below hKa'.out (fun k => k = q ∨ k = g)).drew.then hT7 (fun _ _ h => .inl h))
        have T9 := nine_turns Ta (g := g) (fun _ => .inr rfl) (j * 9) (.int .i64 (TM.nm1 l x).k) (.int .i64 (TM.nm1 l x).n) (.string ⟨(TM.nm1 l x).s.toArray⟩) (.slice P6 m6 p6) (.int .i64 (TM.nm1 l x).d.k) (.int .i64 (TM.nm1 l x).d.n) (.string ⟨(TM.nm1 l x).d.s.toArray⟩) (.slice I5 x.d.is.len q5) (.slice K6 n6 r6)
        have T7 := nine_turns (Turns.refl (fun k => k = g) w7) (g := g) (fun _ => rfl) (j * 9) (.int .i64 (TM.nm1 l x).k) (.int .i64 (TM.nm1 l x).n) (.string ⟨(TM.nm1 l x).s.toArray⟩) (.slice P6 m6 p6) (.int .i64 (TM.nm1 l x).d.k) (.int .i64 (TM.nm1 l x).d.n) (.string ⟨(TM.nm1 l x).d.s.toArray⟩) (.slice I5 x.d.is.len q5) (.slice K6 n6 r6)
        have hwz : w0.heap.size ≤ w.heap.size := hb.size
        have hMbf := Lib.hid (nine_far hMb7 (g := g) (by omega) (j * 9) (.int .i64 (TM.nm1 l x).k) (.int .i64 (TM.nm1 l x).n) (.string ⟨(TM.nm1 l x).s.toArray⟩) (.slice P6 m6 p6) (.int .i64 (TM.nm1 l x).d.k) (.int .i64 (TM.nm1 l x).d.n) (.string ⟨(TM.nm1 l x).d.s.toArray⟩) (.slice I5 x.d.is.len q5) (.slice K6 n6 r6))
        have hOf := Lib.hid (nine_row hOr7 hcl'.out (.int .i64 (TM.nm1 l x).k) (.int .i64 (TM.nm1 l x).n) (.string ⟨(TM.nm1 l x).s.toArray⟩) (.slice P6 m6 p6) (.int .i64 (TM.nm1 l x).d.k) (.int .i64 (TM.nm1 l x).d.n) (.string ⟨(TM.nm1 l x).d.s.toArray⟩) (.slice I5 x.d.is.len q5) (.slice K6 n6 r6))
        have hTo9 := hTo.turns T7 (fun g' _ hs he => by simp at hs; omega) (fun g' _ hs he => by omega)
        have hAw := TAt.turns T9 (fun g' hg' hs he => by rcases he with he | he <;> omega) (fun g' hg' hs he => by rcases he with he | he <;> omega) (TAt.mono (S' := fun g' => Z ≤ g' ∧ g' < wr.heap.size) (fun g' hg' hs => ⟨hs, hg'⟩) hAt'.out)
        have hAf := Lib.hid (TAt.mono (S' := fun g' => Z ≤ g') (fun g' _ hs => hs.elim (fun h => h.1) (fun h => by simp at h; omega)) (TAt.app hAw hTo9.at_ (fun g' _ h1 h2 => by simp at h2; omega)))
        have hIf := Lib.hid (hI7.turns T7 (fun h => by omega))
        have hBf := Lib.hid (hBr'.out.turns T9 (fun g' hg' he => by have h1 := hBz.out g' hg'; have h2 := hOz.out g rfl; simp at h1 h2; rcases he with he | he <;> omega))
        have hMrf := Lib.hid (hMr.turns T9 (fun he => by rcases he with he | he <;> omega))
        have hTf := Lib.hid (hTr'.out.then T9 (fun i hi he => by rcases he with he | he <;> omega))
        have hZf := Lib.hid (Nat.le_trans hZr T9.size)
        clear hTo hI7 hT7 hMb7 hOr7 Ta T9 T7 hTo9 hAw R7
        go_wp2_with fail
        go_roundw
        case rel =>
          refine ⟨j + 1, _, csq, by omega, by go_num, hOf.out, ?_, hRw3.out, ?_, hBf.out, hMbf.out, hMrf.out, hTf.out, hZf.out⟩
          · rw [htk'.out, TM.nmt_snoc]; exact hAf.out
          · rw [hpt'.out, ← List.append_assoc]; exact hIf.out
        case measure => simp [intOf]; omega
    · obtain rfl : j = N := by omega
      have hcr : csr = [] := by have h := hRw'.out; rw [Tl.dr_end ks j (by rw [hN'.out]; exact Nat.le_refl _)] at h; exact h
      have hall : ks.tk j = ks := by rw [← hN'.out]; exact Tl.tk_all ks
      subst hcr
      have hOr2 := hOr'.out
      rw [List.append_nil] at hOr2
      have hOr3 := Lib.hid hOr2
      have hall' := Lib.hid hall
      have z0 := hMb.cell 0
      have z1 := hMb.cell 1
      have z2 := hMb.cell 2
      have z3 := hMb.cell 3
      have z4 := hMb.cell 4
      have z5 := hMb.cell 5
      have z6 := hMb.cell 6
      have z7 := hMb.cell 7
      have z8 := hMb.cell 8
      have fz0 := hMr.free 0
      have fz1 := hMr.free 1
      have fz2 := hMr.free 2
      have fz3 := hMr.free 3
      have fz4 := hMr.free 4
      have fz5 := hMr.free 5
      have fz6 := hMr.free 6
      have fz7 := hMr.free 7
      have fz8 := hMr.free 8
      have cz0 := hMr.cell 0
      have cz1 := hMr.cell 1
      have cz2 := hMr.cell 2
      have cz3 := hMr.cell 3
      have cz4 := hMr.cell 4
      have cz5 := hMr.cell 5
      have cz6 := hMr.cell 6
      have cz7 := hMr.cell 7
      have cz8 := hMr.cell 8
      have hltr := hMr.lt
      simp only [List.getElem?_cons_succ, List.getElem?_cons_zero] at z0 z1 z2 z3 z4 z5 z6 z7 z8 cz0 cz1 cz2 cz3 cz4 cz5 cz6 cz7 cz8
      clear hOr2 hall y8 hOr' hRw'
      go_wp2_with fail
      have Tz := nine_turns (Turns.refl (fun k => k = w.heap.size + 1) wr) (g := w.heap.size + 1) (fun _ => rfl) 0 (.int .i64 k) (.int .i64 n) (.string ⟨s.toArray⟩) (.slice B2 m2 c2) (.int .i64 d.k) (.int .i64 d.n) (.string ⟨d.s.toArray⟩) (.slice I7 L7 q7) (.slice B5 j c5)
      have hwz : w0.heap.size ≤ w.heap.size := hb.size
      have hTz := hTr'.out.then Tz (fun i hi he => by omega)
      have hMz := nine_res hMr (w.heap.size + 1) rfl (.int .i64 k) (.int .i64 n) (.string ⟨s.toArray⟩) (.slice B2 m2 c2) (.int .i64 d.k) (.int .i64 d.n) (.string ⟨d.s.toArray⟩) (.slice I7 L7 q7) (.slice B5 j c5)
      have rz0 := hMz.cell 0
      have rz1 := hMz.cell 1
      have rz2 := hMz.cell 2
      have rz3 := hMz.cell 3
      have rz4 := hMz.cell 4
      have rz5 := hMz.cell 5
      have rz6 := hMz.cell 6
      have rz7 := hMz.cell 7
      have rz8 := hMz.cell 8
      unfold nine at rz0 rz1 rz2 rz3 rz4 rz5 rz6 rz7 rz8
      simp only [List.getElem?_cons_succ, List.getElem?_cons_zero, Nat.zero_add] at rz0 rz1 rz2 rz3 rz4 rz5 rz6 rz7 rz8
      refine bodyPost_ret (v := .agg #[.int .i64 k, .int .i64 n, .string ⟨s.toArray⟩, .slice B2 m2 c2, .int .i64 d.k, .int .i64 d.n, .string ⟨d.s.toArray⟩, .slice I7 L7 q7, .slice B5 j c5]) (by simp [results, Tryz.results36, go_sem, rz0, rz1, rz2, rz3, rz4, rz5, rz6, rz7, rz8]) rfl ⟨.slice B2 m2 c2, .slice B5 j c5, ?_, ⟨csd, ?_, ?_, ?_, ?_, ?_, ?_⟩, ?_, hTz⟩
      · unfold tmv TM.nm1
        simp only
        rw [if_neg (by omega)]
      · have h1 := hBr'.out.turns Tz (fun g' hg' he => by have h1 := hBz.out g' hg'; simp at h1; omega)
        have h2 : ps.map (TM.pl (met ++ ps)) = ps.map (TM.pl l) := List.map_congr_left fun p hp => by
          have h5 := TM.pl_in (a := met ++ ps) (b := TM.prs ks ++ r) (n := p) (by simp [hp])
          rw [hl'.out, ← h5]
          simp only [List.append_assoc]
        rw [h2] at h1
        exact h1
      · intro g' hg'
        have h1 := hBz.out g' hg'
        simp at h1 ⊢
        omega
      · have h0 := hTd'.out
        rw [hL7'.out] at h0
        exact h0.ind.agr (Agr.of_below (below_of_turns hb hTz hq))
      · have h1 := own_turns hOr3.out Tz (fun g' hg' he => by have h1 := hOz.out g' hg'; simp at h1 hlt4r; omega)
        show World.ownsRow _ 0 _ 9 _ (TM.nmt l ks).len csd
        rw [TM.nmt_len, hN'.out]
        exact h1
      · intro g' hg'
        have h1 := hOz.out g' hg'
        simp at h1 hlt4r ⊢
        omega
      · have h1 := hAt'.out
        rw [hall'.out] at h1
        have h2 := TAt.turns Tz (fun g' hg' hs he => by simp at hlt4r hZ5; omega) (fun g' hg' hs he => by omega) h1
        refine TAt.mono (fun g' hg' hs => ⟨by simp at hlt4r hZ5; omega, fun e => ?_, fun e => ?_⟩) h2
        · have h3 := hOz.out g' e
          rw [hZ'.out] at h3
          omega
        · have h3 := hBz.out g' e
          omega
      · have h1 := hIr'.out.turns Tz (fun h => by omega)
        rw [hall'.out, List.append_assoc] at h1
        exact h1
end Go.Proofs.YtpiekdcbjkgipaaGreat
