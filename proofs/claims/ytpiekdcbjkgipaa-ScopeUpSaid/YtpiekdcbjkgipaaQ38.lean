/- Package term: quoteApart, a term with data that it shares with nothing, its kids changed in their place. -/
import Derived.Test.YtpiekdcbjkgipaaQ33
import Derived.Test.YtpiekdcbjkgipaaQ37
namespace Go.Proofs.Ytpiekdcbjkgipaa
open Go.ChangeShapes Go.WideShapes Go.ChangeAt Go.RowKit Go.Deep
open TM (Tl Tm)

/-- all data are small -/
def TM.dok : Tl → Prop
  | .nil => True
  | .cons _ _ _ _ d ks r => SM.sz d.is ≤ 5000 ∧ TM.dok ks ∧ TM.dok r
theorem TM.dok_at : ∀ {d : Tl} {i : Nat} {x : Tm}, TM.dok d → d.at_ i = some x → SM.sz x.d.is ≤ 5000 ∧ TM.dok x.ks
  | .nil, i, x, _, h => by simp [Tl.at_] at h
  | .cons k n s ps d ks r, 0, x, ⟨h1, h2, h3⟩, h => by
    simp only [Tl.at_, Option.some.injEq] at h
    subst h
    exact ⟨h1, h2⟩
  | .cons k n s ps d ks r, i + 1, x, ⟨h1, h2, h3⟩, h => TM.dok_at h3 (show r.at_ i = some x from h)
/-- the first of some terms, and those behind it -/
theorem TAt.split {w : World} {D : Nat → Prop} {t : Tl} {S : Nat → Prop} {cs : List Value} {i : Nat} {x : Tm} (h : TAt w D (t.dr i) S cs) (hx : t.at_ i = some x) :
    ∃ (S1 S2 : Nat → Prop) (vp vi vk : Value) (c2 : List Value), cs = tcells x vp vi vk ++ c2 ∧ (∀ g, S1 g → S g) ∧ (∀ g, S2 g → S g) ∧ (∀ g, S1 g → S2 g → False) ∧ TmOwn w D S1 x vp vi vk ∧ TAt w D (t.dr (i + 1)) S2 c2 := by
  rw [Tl.dr_at t i x hx] at h
  exact TAt.cons.1 h
def QaN (S : Nat → Prop) (t : Tm) (vp vk : Value) (w : World) (e : Ending) (w' : World) : Prop :=
  ∃ vi', e = .returned (tmv t vp vi' vk) ∧ TmOwn w' (fun g => w.heap.size ≤ g) S t vp vi' vk ∧ Turns S w w'
def QaOk (t : Tm) : Prop := ∀ (w : World) (D S : Nat → Prop) (vp vi vk : Value), TmOwn w D S t vp vi vk → (∀ g, g < w.heap.size → S g → D g → False) → SM.sz t.d.is ≤ 5000 → TM.dok t.ks → TM.sz t.ks ≤ 5000 →
  Calls Try.prog 18 #[tmv t vp vi vk] w (QaN S t vp vk w)
theorem slice_of {w : World} {v : Value} {l : List Int} {B : Nat} (h : Own w B v l) : ∃ A m c, v = .slice A m c := by
  obtain ⟨A, c, e, -⟩ := h.read; exact ⟨_, _, _, e⟩
theorem own_differ {w : World} {v u : Value} {l : List Int} {B B' n g : Nat} {cs : List Value} (h : Own w B v l) (k : w.ownsRow B' 32 9 u n cs) (hg : v.ownBlock = some g) (hk : u.ownBlock = some g) : False := by
  rcases h.2 with ⟨rfl, _⟩ | ⟨g1, _, cur1, rfl, _, h1, _⟩
  · simp [Value.ownBlock] at hg
  rcases k.2 with ⟨rfl, _⟩ | ⟨g2, _, cur2, rfl, _, h2, _⟩
  · simp [Value.ownBlock] at hk
  simp [Value.ownBlock] at hg hk
  subst hg hk
  have := h1.symm.trans h2
  simp at this
set_option maxRecDepth 100000 in
set_option maxHeartbeats 8000000 in
theorem qa_step (k n : Int) (s : List UInt8) (ps : List Int) (d : RM.Dm) (ks : Tl) (hR : ∀ i x, ks.at_ i = some x → QaOk x) : QaOk ⟨k, n, s, ps, d, ks⟩ := by
  intro w D S vp vi vk hT0 hSD hsd hdk hsz
  have hT := hT0.mono (S' := fun g => S g ∧ g < w.heap.size) (fun g hg hs => ⟨hs, hg⟩)
  obtain ⟨c0, hp, hpS, hdi, hrow, hkS, hat⟩ := hT
  obtain ⟨P3, L3, p3, rfl⟩ := slice_of hp
  obtain ⟨I7, q7, rfl⟩ := hdi.in_.read
  obtain ⟨A1, c1, rfl, -⟩ := own_read hrow
  have hN63 := own_len hrow
  have hdin := hdi.in_
  simp only at hp hpS hdi hrow hkS hat hsd hdk hsz hN63 hdin ⊢
  have hCo := Lib.hid (fun (w' : World) (hb' : Below w.heap.size w w') => copied_any d w' _ (hdin.below hb') hsd)
  obtain ⟨N, hN⟩ : ∃ N, ks.len = N := ⟨_, rfl⟩
  obtain ⟨L7, hL7⟩ : ∃ x, d.is.len = x := ⟨_, rfl⟩
  unfold tmv
  simp only
  rw [hN] at hrow hkS hat hN63 ⊢
  rw [hL7]
  unfold CpN dtv at hCo
  rw [hL7] at hCo
  have hL := (Lies.made w 32 #[.int .i64 k, .int .i64 n, .string ⟨s.toArray⟩, .slice P3 L3 p3, .int .i64 d.k, .int .i64 d.n, .string ⟨d.s.toArray⟩, .slice I7 L7 q7, .slice A1 N c1]).alloc (.cells #[.int .i64 0, .int .i64 0, .string ⟨#[]⟩, .slice none 0 0, .int .i64 0, .int .i64 0, .string ⟨#[]⟩, .slice none 0 0, .slice none 0 0] 32)
  have hz1 : (w.alloc (.cells #[.int .i64 k, .int .i64 n, .string ⟨s.toArray⟩, .slice P3 L3 p3, .int .i64 d.k, .int .i64 d.n, .string ⟨d.s.toArray⟩, .slice I7 L7 q7, .slice A1 N c1] 32)).heap.size = w.heap.size + 1 := by simp
  have hLr := Lies.made (w.alloc (.cells #[.int .i64 k, .int .i64 n, .string ⟨s.toArray⟩, .slice P3 L3 p3, .int .i64 d.k, .int .i64 d.n, .string ⟨d.s.toArray⟩, .slice I7 L7 q7, .slice A1 N c1] 32)) 32 #[.int .i64 0, .int .i64 0, .string ⟨#[]⟩, .slice none 0 0, .int .i64 0, .int .i64 0, .string ⟨#[]⟩, .slice none 0 0, .slice none 0 0]
  rw [hz1] at hLr
  have hba : Below w.heap.size w ((w.alloc (.cells #[.int .i64 k, .int .i64 n, .string ⟨s.toArray⟩, .slice P3 L3 p3, .int .i64 d.k, .int .i64 d.n, .string ⟨d.s.toArray⟩, .slice I7 L7 q7, .slice A1 N c1] 32)).alloc (.cells #[.int .i64 0, .int .i64 0, .string ⟨#[]⟩, .slice none 0 0, .int .i64 0, .int .i64 0, .string ⟨#[]⟩, .slice none 0 0, .slice none 0 0] 32)) := ((Below.refl _ w).alloc (Nat.le_refl _) _).alloc (by simp) _
  have hN' := Lib.hid hN
  have hR' := Lib.hid hR
  have hsz' := Lib.hid hsz
  have hdk' := Lib.hid hdk
  have hSD' := Lib.hid hSD
  have hp' := Lib.hid hp
  have hpS' := Lib.hid hpS
  have hrow' := Lib.hid hrow
  have hkS' := Lib.hid hkS
  have hat' := Lib.hid hat
  clear hR hN hz1 hsz hdk hSD hp hpS hrow hkS hat hT0 hdi hdin hsd hL7
  go_enter Try.func18, Try.ntmps18
  go_wp2_with (
    go_at_call 30
    refine (hCo.out _ hba).mono ?_
    rintro e w5 ⟨v5, rfl, hO5, hb5⟩
    obtain ⟨I8, L8, q8, rfl⟩ : ∃ A m c, v5 = .slice A m c := by obtain ⟨A, c, e⟩ := hO5.read; exact ⟨_, _, _, e⟩
    have hM5 := hL.below hb5 hL.lt
    have hMr5 := hLr.below hb5 hLr.lt
    have x4 := hM5.cell 4
    have x5 := hM5.cell 5
    have x6 := hM5.cell 6
    have x7 := hM5.cell 7
    have f4 := hM5.free 4
    have f5 := hM5.free 5
    have f6 := hM5.free 6
    have f7 := hM5.free 7
    have hlt5 := hM5.lt
    have hM6 := (((hM5.stored 4 (.int .i64 d.k)).stored 5 (.int .i64 d.n)).stored 6 (.string ⟨d.s.toArray⟩)).stored 7 (.slice I8 L8 q8)
    have hMr6 := (((hMr5.far (p := ⟨w.heap.size, 4, none⟩) (by simp) (.int .i64 d.k)).far (p := ⟨w.heap.size, 5, none⟩) (by simp) (.int .i64 d.n)).far (p := ⟨w.heap.size, 6, none⟩) (by simp) (.string ⟨d.s.toArray⟩)).far (p := ⟨w.heap.size, 7, none⟩) (by simp) (.slice I8 L8 q8)
    have w8 := hM6.cell 8
    simp only [List.getElem?_cons_succ, List.getElem?_cons_zero, List.set_cons_succ, List.set_cons_zero] at x4 x5 x6 x7 w8)
  simp only [List.set_cons_succ, List.set_cons_zero] at hM6
  have hTs : Turns (fun k => k = w.heap.size) w5 _ := ((((Turns.refl (fun k => k = w.heap.size) w5).setCell (p := ⟨w.heap.size, 4, none⟩) (fun _ => rfl) (.int .i64 d.k)).setCell (p := ⟨w.heap.size, 5, none⟩) (fun _ => rfl) (.int .i64 d.n)).setCell (p := ⟨w.heap.size, 6, none⟩) (fun _ => rfl) (.string ⟨d.s.toArray⟩)).setCell (p := ⟨w.heap.size, 7, none⟩) (fun _ => rfl) (.slice I8 L8 q8)
  have hTw := Lib.hid ((((Turns.of_below hba (fun _ => False)).then (Turns.of_below hb5 (fun _ => False)) (fun _ _ h => h))).then hTs (fun i hi he => by omega))
  have hI6 := Lib.hid ((Dat.ind (Dat.turns hO5 hTs (fun g _ hs he => by simp at hs; omega))).mono (D' := fun g => w.heap.size + 1 < g) (fun g _ hs => by simp at hs; omega))
  have hZ5 : w.heap.size + 1 < w5.heap.size := hMr5.lt
  clear hO5 hb5 hTs hM5 hMr5 hL hLr hCo hba
  have hAt0 := Lib.hid (TAt.turns hTw.out (fun _ _ _ h => h) (fun _ _ _ h => h) hat'.out)
  have hRow0 := Lib.hid (own_turns hrow'.out hTw.out (fun _ _ h => h))
  have hP0 := Lib.hid (hp'.out.turns hTw.out (fun _ _ h => h))
  go_loopw [12] (fun i wr => ∃ (j : Nat) (csd csr : List Value) (Sd Sr : Nat → Prop), j ≤ N ∧ i = .int .i64 j ∧ wr.ownsRow 0 32 9 (.slice A1 N c1) N (csd ++ csr) ∧ TAt wr (fun g => w.heap.size + 1 < g) (ks.tk j) Sd csd ∧ TAt wr D (ks.dr j) Sr csr
      ∧ (∀ g, Sd g → (S g ∧ g < w.heap.size) ∧ (Value.slice A1 N c1).ownBlock ≠ some g ∧ (Value.slice P3 L3 p3).ownBlock ≠ some g) ∧ (∀ g, Sr g → (S g ∧ g < w.heap.size) ∧ (Value.slice A1 N c1).ownBlock ≠ some g ∧ (Value.slice P3 L3 p3).ownBlock ≠ some g) ∧ (∀ g, Sd g → Sr g → False)
      ∧ Own wr 0 (.slice P3 L3 p3) ps ∧ InD wr (fun g => w.heap.size + 1 < g) (.slice I8 L8 q8) d.is ∧ Lies wr w.heap.size 32 [.int .i64 k, .int .i64 n, .string ⟨s.toArray⟩, .slice P3 L3 p3, .int .i64 d.k, .int .i64 d.n, .string ⟨d.s.toArray⟩, .slice I8 L8 q8, .slice A1 N c1] ∧ Lies wr (w.heap.size + 1) 32 [.int .i64 0, .int .i64 0, .string ⟨#[]⟩, .slice none 0 0, .int .i64 0, .int .i64 0, .string ⟨#[]⟩, .slice none 0 0, .slice none 0 0] ∧ Turns (fun g => S g ∧ g < w.heap.size) w wr) (fun i _ => N - (intOf i).toNat)
  case atStart =>
    refine ⟨0, [], c0, fun _ => False, _, Nat.zero_le _, rfl, hRow0.out, ?_, ?_, fun _ h => h.elim, fun _ h => h, fun _ h _ => h, hP0.out, hI6.out, hM6, hMr6, hTw.out.mono (fun _ _ h => h.elim)⟩
    · rw [Tl.tk_zero]; rfl
    · rw [Tl.dr_zero]; exact hAt0.out
  case round =>
    obtain ⟨j, csd, csr, Sd, Sr, hj, rfl, hOr, hAd, hAr, hSd, hSr, hdj, hPr, hIr, hMb, hMr, hTr⟩ := hrel
    have hOr' := Lib.hid hOr
    have hAd' := Lib.hid hAd
    have hAr' := Lib.hid hAr
    have hSd' := Lib.hid hSd
    have hSr' := Lib.hid hSr
    have hdj' := Lib.hid hdj
    have hPr' := Lib.hid hPr
    have hIr' := Lib.hid hIr
    have hTr' := Lib.hid hTr
    have y8 : wr.cell? ⟨w.heap.size, 8, none⟩ = some (.slice A1 N c1) := hMb.cell 8
    clear hM6 hMr6 hOr hAd hAr hSd hSr hdj hPr hIr hTr w8 x4 x5 x6 x7 f4 f5 f6 f7 hAt0 hRow0 hP0 hTw hI6
    by_cases hlt : j < N
    · obtain ⟨x, hx⟩ := ks.at_some j (by rw [hN'.out]; exact hlt)
      obtain ⟨S1, S2, vp5, vi5, vk5, csq, hcs, hS1, hS2, hS12, hT5, hRw2⟩ := hAr'.out.split hx
      have hcl : csd.length = j * 9 := by have h1 := hAd'.out.len; rw [Tl.tk_len ks j (by rw [hN'.out]; exact hj)] at h1; exact h1
      obtain ⟨P5, m5, p5, rfl⟩ : ∃ A m c, vp5 = .slice A m c := by obtain ⟨A, c, e⟩ := hT5.tmin.p.read; exact ⟨_, _, _, e⟩
      obtain ⟨I5, l5, q5, rfl⟩ : ∃ A m c, vi5 = .slice A m c := by obtain ⟨A, c, e⟩ := hT5.tmin.d.read; exact ⟨_, _, _, e⟩
      obtain ⟨K5, n5, r5, rfl⟩ : ∃ A m c, vk5 = .slice A m c := by obtain ⟨A, c, e⟩ := hT5.tmin.k.read; exact ⟨_, _, _, e⟩
      subst hcs
      have hOr2 := hOr'.out
      obtain ⟨A9, c9, e9, hrd⟩ := own_read hOr2
      obtain ⟨g, hB9, -, hg2, hg0⟩ := hrd (j * 9) (by omega)
      have hB5 : A1 = some ⟨g, 0, none⟩ := by injection e9 with e; rw [e, hB9]
      subst hB5
      have rc : ∀ i u, (tcells x (.slice P5 m5 p5) (.slice I5 l5 q5) (.slice K5 n5 r5))[i]? = some u → i < 9 → wr.cell? ⟨g, j * 9 + i, none⟩ = some u := fun i u hu hi => by
        rw [hOr2.cellAt (j * 9 + i) (by omega), List.getElem?_append_right (by omega), hcl, Nat.add_sub_cancel_left, List.getElem?_append_left (by simp [tcells]; omega)]
        exact hu
      have c10 := rc 0 _ rfl (by omega)
      have c11 := rc 1 _ rfl (by omega)
      have c12 := rc 2 _ rfl (by omega)
      have c13 := rc 3 _ rfl (by omega)
      have c14 := rc 4 _ rfl (by omega)
      have c15 := rc 5 _ rfl (by omega)
      have c16 := rc 6 _ rfl (by omega)
      have c17 := rc 7 _ rfl (by omega)
      have c18 := rc 8 _ rfl (by omega)
      rw [Nat.add_zero] at c10
      have hfrz : ∀ i, wr.frozen? ⟨g, i, none⟩ = false := fun i => hOr2.frozenAt i
      have hgS := hkS'.out g rfl
      have hgw : g < w.heap.size := hgS.2
      have htk := Tl.tk_snoc ks j x hx
      have hzx : TM.sz x.ks ≤ 5000 := by have h1 := TM.sz_in hx; have := hsz'.out; omega
      have hdx := TM.dok_at hdk'.out hx
      have hT5' := Lib.hid hT5
      have hS1' := Lib.hid hS1
      have hC := Lib.hid (fun (w' : World) (k : Agr (fun g => g < wr.heap.size) wr w') (ht : TmOwn w' D S1 x (.slice P5 m5 p5) (.slice I5 l5 q5) (.slice K5 n5 r5)) => hR'.out j x hx w' D S1 _ _ _ ht (fun g' _ h1 h2 => hSD'.out g' (hSr'.out g' (hS1'.out g' h1)).1.2 (hSr'.out g' (hS1'.out g' h1)).1.1 h2) hdx.1 hdx.2 hzx)
      have hKa : Below wr.heap.size wr (wr.alloc (.cells #[.int .i64 x.k, .int .i64 x.n, .string ⟨x.s.toArray⟩, .slice P5 m5 p5, .int .i64 x.d.k, .int .i64 x.d.n, .string ⟨x.d.s.toArray⟩, .slice I5 l5 q5, .slice K5 n5 r5] 32)) := (Below.refl _ wr).alloc (Nat.le_refl _) _
      have hTk := Lib.hid (hT5.turns ((Turns.of_below hKa (fun _ => False)).drew) (fun _ _ _ h => h) (fun _ _ _ h => h))
      unfold QaN tmv at hC
      have htk' := Lib.hid htk
      have hRw3 := Lib.hid hRw2
      have hcl' := Lib.hid hcl
      have hOr3 := Lib.hid hOr2
      have hKa' := Lib.hid hKa
      have hS2' := Lib.hid hS2
      have hS12' := Lib.hid hS12
      have hgS' := Lib.hid hgS
      have hag : Agr (fun g => g < wr.heap.size) wr (wr.alloc (.cells #[.int .i64 x.k, .int .i64 x.n, .string ⟨x.s.toArray⟩, .slice P5 m5 p5, .int .i64 x.d.k, .int .i64 x.d.n, .string ⟨x.d.s.toArray⟩, .slice I5 l5 q5, .slice K5 n5 r5] 32)).drew := Agr.of_turns ((Turns.of_below hKa (fun _ => False)).drew) (fun _ _ _ h => h)
      have hag' := Lib.hid hag
      have hwr : w.heap.size + 1 < wr.heap.size := hMr.lt
      clear rc hrd htk hzx hT5 hRw2 hcl hx hOr2 hB9 hg0 hAr' e9 hOr' hKa hdx hS1 hS2 hS12 hgS hag
      go_wp2_with fail
      have hbw : w.heap.size < wr.heap.size := by omega
      go_region_with (
        go_at_call 18
        refine (hC.out _ hag'.out hTk.out).mono ?_
        rintro e w7 ⟨vi6, rfl, hTo, hb7⟩
        obtain ⟨I6, l6, q6, rfl⟩ : ∃ A m c, vi6 = .slice A m c := by obtain ⟨A, c, e⟩ := hTo.tmin.d.read; exact ⟨_, _, _, e⟩
        have Tb : Turns S1 wr w7 := (Turns.of_below hKa'.out S1).drew.then hb7 (fun _ _ h => h)
        have hMb7 := hMb.turns Tb (fun h => by have := (hSr'.out _ (hS1'.out _ h)).1.2; omega)
        have k8 : w7.cell? ⟨w.heap.size, 8, none⟩ = some (.slice (some ⟨g, 0, none⟩) N c1) := hMb7.cell 8
        have hOr7 := own_turns hOr3.out Tb (fun g' hg' h => (hSr'.out _ (hS1'.out _ h)).2.1 hg')
        have hfr7 : ∀ i, w7.frozen? ⟨g, i, none⟩ = false := fun i => hOr7.frozenAt i
        have rc7 : ∀ i u, (tcells x (.slice P5 m5 p5) (.slice I5 l5 q5) (.slice K5 n5 r5))[i]? = some u → i < 9 → w7.cell? ⟨g, j * 9 + i, none⟩ = some u := fun i u hu hi => by
          rw [hOr7.cellAt (j * 9 + i) (by omega), List.getElem?_append_right (by rw [hcl'.out]; omega), hcl'.out, Nat.add_sub_cancel_left, List.getElem?_append_left (by simp [tcells]; omega)]
          exact hu
        have e10 := rc7 0 _ rfl (by omega)
        have e11 := rc7 1 _ rfl (by omega)
        have e12 := rc7 2 _ rfl (by omega)
        have e13 := rc7 3 _ rfl (by omega)
        have e14 := rc7 4 _ rfl (by omega)
        have e15 := rc7 5 _ rfl (by omega)
        have e16 := rc7 6 _ rfl (by omega)
        have e17 := rc7 7 _ rfl (by omega)
        have e18 := rc7 8 _ rfl (by omega)
        rw [Nat.add_zero] at e10
        have R7 := Lib.hid (And.intro hTo (And.intro Tb (And.intro hOr7 hMb7)))
        clear hTo hb7 Tb hMb7 hOr7 rc7)
      all_goals
        clear k8 hfr7 e10 e11 e12 e13 e14 e15 e16 e17 e18
        obtain ⟨hTo, Tb, hOr7, hMb7⟩ := R7.out
        have T9 := nine_turns (Tb.mono (Y := fun k => S1 k ∨ k = g) (fun _ _ h => .inl h)) (g := g) (fun _ => .inr rfl) (j * 9) (.int .i64 x.k) (.int .i64 x.n) (.string ⟨x.s.toArray⟩) (.slice P5 m5 p5) (.int .i64 x.d.k) (.int .i64 x.d.n) (.string ⟨x.d.s.toArray⟩) (.slice I6 l6 q6) (.slice K5 n5 r5)
        have T7 := nine_turns (Turns.refl (fun k => k = g) w7) (g := g) (fun _ => rfl) (j * 9) (.int .i64 x.k) (.int .i64 x.n) (.string ⟨x.s.toArray⟩) (.slice P5 m5 p5) (.int .i64 x.d.k) (.int .i64 x.d.n) (.string ⟨x.d.s.toArray⟩) (.slice I6 l6 q6) (.slice K5 n5 r5)
        have nS1 : ∀ g', S1 g' → g' ≠ g := fun g' h e => (hSr'.out _ (hS1'.out _ h)).2.1 (by rw [e]; rfl)
        have nSd : ∀ g', Sd g' → g' ≠ g := fun g' h e => (hSd'.out _ h).2.1 (by rw [e]; rfl)
        have hMbf := Lib.hid (nine_far hMb7 (g := g) (by omega) (j * 9) (.int .i64 x.k) (.int .i64 x.n) (.string ⟨x.s.toArray⟩) (.slice P5 m5 p5) (.int .i64 x.d.k) (.int .i64 x.d.n) (.string ⟨x.d.s.toArray⟩) (.slice I6 l6 q6) (.slice K5 n5 r5))
        have hOf := Lib.hid (nine_row hOr7 hcl'.out (.int .i64 x.k) (.int .i64 x.n) (.string ⟨x.s.toArray⟩) (.slice P5 m5 p5) (.int .i64 x.d.k) (.int .i64 x.d.n) (.string ⟨x.d.s.toArray⟩) (.slice I6 l6 q6) (.slice K5 n5 r5))
        have hTo9 := (hTo.turns T7 (fun g' _ hs he => nS1 g' hs he) (fun g' _ hs he => by simp at hs; omega)).dmono (D' := fun g' => w.heap.size + 1 < g') (fun g' _ hs => by simp at hs; omega)
        have hAw := TAt.turns T9 (fun g' _ hs he => by
          rcases he with he | he
          · exact hdj'.out g' hs (hS1'.out g' he)
          · exact nSd g' hs he) (fun g' _ hs he => by
          rcases he with he | he
          · have := (hSr'.out _ (hS1'.out _ he)).1.2; omega
          · omega) hAd'.out
        have hAf := Lib.hid (TAt.app hAw hTo9.at_ (fun g' _ h1 h2 => hdj'.out g' h1 (hS1'.out g' h2)))
        have hArf := Lib.hid (TAt.turns T9 (fun g' _ hs he => by
          rcases he with he | he
          · exact hS12'.out g' he hs
          · exact (hSr'.out _ (hS2'.out _ hs)).2.1 (by rw [he]; rfl)) (fun g' _ hs he => by
          rcases he with he | he
          · exact hSD'.out g' (hSr'.out _ (hS1'.out _ he)).1.2 (hSr'.out _ (hS1'.out _ he)).1.1 hs
          · subst he; exact hSD'.out g' hgS'.out.2 hgS'.out.1 hs) hRw3.out)
        have hPf := Lib.hid (hPr'.out.turns T9 (fun g' hg' he => by
          rcases he with he | he
          · exact (hSr'.out _ (hS1'.out _ he)).2.2 hg'
          · subst he
            exact own_differ hPr'.out hOr3.out hg' rfl))
        have hIf := Lib.hid (hIr'.out.agr (Agr.of_turns T9 (fun g' _ hs he => by
          rcases he with he | he
          · have := (hSr'.out _ (hS1'.out _ he)).1.2; omega
          · omega)))
        have hMrf := Lib.hid (hMr.turns T9 (fun he => by
          rcases he with he | he
          · have := (hSr'.out _ (hS1'.out _ he)).1.2; omega
          · omega))
        have hTf := Lib.hid (hTr'.out.then T9 (fun i hi he => by
          rcases he with he | he
          · exact (hSr'.out _ (hS1'.out _ he)).1
          · subst he; exact hgS'.out))
        clear hTo Tb hMb7 hOr7 T9 T7 hTo9 hAw R7 nS1 nSd
        go_wp2_with fail
        go_roundw
        case rel =>
          refine ⟨j + 1, _, csq, fun g' => Sd g' ∨ S1 g', S2, by omega, by go_num, hOf.out, ?_, hArf.out, fun g' h => h.elim (hSd'.out g') (fun h => hSr'.out g' (hS1'.out g' h)), fun g' h => hSr'.out g' (hS2'.out g' h), fun g' h1 h2 => h1.elim (fun h => hdj'.out g' h (hS2'.out g' h2)) (fun h => hS12'.out g' h h2), hPf.out, hIf.out, hMbf.out, hMrf.out, hTf.out⟩
          rw [htk'.out]; exact hAf.out
        case measure => simp [intOf]; omega
    · obtain rfl : j = N := by omega
      have hcr : csr = [] := by have h := hAr'.out; rw [Tl.dr_end ks j (by rw [hN'.out]; exact Nat.le_refl _)] at h; exact h
      have hall : ks.tk j = ks := by rw [← hN'.out]; exact Tl.tk_all ks
      subst hcr
      have hOr2 := hOr'.out
      rw [List.append_nil] at hOr2
      have hOr3 := Lib.hid hOr2
      have hall' := Lib.hid hall
      have z0 := hMb.cell 0
      have fz0 := hMr.free 0
      have cz0 := hMr.cell 0
      have z1 := hMb.cell 1
      have fz1 := hMr.free 1
      have cz1 := hMr.cell 1
      have z2 := hMb.cell 2
      have fz2 := hMr.free 2
      have cz2 := hMr.cell 2
      have z3 := hMb.cell 3
      have fz3 := hMr.free 3
      have cz3 := hMr.cell 3
      have z4 := hMb.cell 4
      have fz4 := hMr.free 4
      have cz4 := hMr.cell 4
      have z5 := hMb.cell 5
      have fz5 := hMr.free 5
      have cz5 := hMr.cell 5
      have z6 := hMb.cell 6
      have fz6 := hMr.free 6
      have cz6 := hMr.cell 6
      have z7 := hMb.cell 7
      have fz7 := hMr.free 7
      have cz7 := hMr.cell 7
      have z8 := hMb.cell 8
      have fz8 := hMr.free 8
      have cz8 := hMr.cell 8
      have hltr := hMr.lt
      simp only [List.getElem?_cons_succ, List.getElem?_cons_zero] at z0 z1 z2 z3 z4 z5 z6 z7 z8 cz0 cz1 cz2 cz3 cz4 cz5 cz6 cz7 cz8
      clear hOr2 hall y8 hOr' hAr'
      go_wp2_with fail
      have Tz := nine_turns (Turns.refl (fun k => k = w.heap.size + 1) wr) (g := w.heap.size + 1) (fun _ => rfl) 0 (.int .i64 k) (.int .i64 n) (.string ⟨s.toArray⟩) (.slice P3 L3 p3) (.int .i64 d.k) (.int .i64 d.n) (.string ⟨d.s.toArray⟩) (.slice I8 L8 q8) (.slice A1 j c1)
      have hTz := (hTr'.out.mono (Y := S) (fun _ _ h => h.1)).then Tz (fun i hi he => by omega)
      have hMz := nine_res hMr (w.heap.size + 1) rfl (.int .i64 k) (.int .i64 n) (.string ⟨s.toArray⟩) (.slice P3 L3 p3) (.int .i64 d.k) (.int .i64 d.n) (.string ⟨d.s.toArray⟩) (.slice I8 L8 q8) (.slice A1 j c1)
      have rz0 := hMz.cell 0
      have rz1 := hMz.cell 1
      have rz2 := hMz.cell 2
      have rz3 := hMz.cell 3
      have rz4 := hMz.cell 4
      have rz5 := hMz.cell 5
      have rz6 := hMz.cell 6
      have rz7 := hMz.cell 7
      have rz8 := hMz.cell 8
      unfold nine at rz0 rz1 rz2 rz3 rz4 rz5 rz6 rz7 rz8
      simp only [List.getElem?_cons_succ, List.getElem?_cons_zero, Nat.zero_add] at rz0 rz1 rz2 rz3 rz4 rz5 rz6 rz7 rz8
      refine bodyPost_ret (v := .agg #[.int .i64 k, .int .i64 n, .string ⟨s.toArray⟩, .slice P3 L3 p3, .int .i64 d.k, .int .i64 d.n, .string ⟨d.s.toArray⟩, .slice I8 L8 q8, .slice A1 j c1]) (by simp [results, Try.results18, go_sem, rz0, rz1, rz2, rz3, rz4, rz5, rz6, rz7, rz8]) rfl ⟨.slice I8 L8 q8, rfl, ⟨csd, ?_, ?_, ?_, ?_, ?_, ?_⟩, hTz⟩
      · exact hPr'.out.turns Tz (fun g' hg' he => by have h1 := hpS'.out g' hg'; omega)
      · exact fun g' hg' => (hpS'.out g' hg').1
      · exact (hIr'.out.agr (Agr.of_turns Tz (fun g' _ h e => by omega))).mono (fun g' _ h => by omega)
      · have h1 := own_turns hOr3.out Tz (fun g' hg' he => by have h1 := hkS'.out g' hg'; omega)
        show World.ownsRow _ 0 _ 9 _ ks.len csd
        rw [hN'.out]
        exact h1
      · exact fun g' hg' => (hkS'.out g' hg').1
      · have h1 := hAd'.out
        rw [hall'.out] at h1
        have h2 := TAt.turns Tz (fun g' _ hs he => by have h3 := (hSd'.out g' hs).1.2; omega) (fun g' _ hs he => by omega) h1
        exact TAt.dmono (fun g' _ h => by omega) (TAt.mono (fun g' _ hs => ⟨(hSd'.out g' hs).1.1, (hSd'.out g' hs).2.1, (hSd'.out g' hs).2.2⟩) h2)
theorem apart_any (t : Tm) : QaOk t := Tl.all_one QaOk qa_step t
end Go.Proofs.Ytpiekdcbjkgipaa
