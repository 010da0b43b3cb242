/- Package datum's Copy, as package term calls it (481802b9; before that term had a function of its own: XTermCopyOld). -/
import Derived.Test.YthbgopmpdkefkaaGreatDoorQ26
import Derived.Test.YthbgopmpdkefkaaGreatDoorQ29
import Derived.Deep.RegionWith
import Derived.Test.YthbgopmpdkefkaaGreatDoorQ28
import Derived.Test.YthbgopmpdkefkaaGreatDoorQ17
import Derived.Carry
namespace Go.Proofs.YthbgopmpdkefkaaGreatDoor
open Go.ChangeShapes Go.WideShapes Go.ChangeAt Go.RowKit Go.Deep

def CpN (x : RM.Dm) (w : World) (e : Ending) (w' : World) : Prop := ∃ v', e = .returned (dtv x v') ∧ Dat w' (fun g => w.heap.size ≤ g) v' x.is ∧ Went w w'
theorem copied_any (x : RM.Dm) (w : World) (v : Value) (h : In w v x.is) (hs : SM.sz x.is ≤ 5000) : Calls Tryz.prog 52 #[dtv x v] w (CpN x w) := copy_any x w v h hs
end Go.Proofs.YthbgopmpdkefkaaGreatDoor

/- Package term: quoteApart, a term with data that it shares with nothing, its kids changed in their place. -/
namespace Go.Proofs.YthbgopmpdkefkaaGreatDoor
open Go.ChangeShapes Go.WideShapes Go.ChangeAt Go.RowKit Go.Deep
open TM (Tl Tm)

/-- all data are small -/
def TM.dok : Tl → Prop
  | .nil => True
  | .cons _ _ _ _ d ks r => SM.sz d.is ≤ 5000 ∧ TM.dok ks ∧ TM.dok r
theorem TM.dok_at : ∀ {d : Tl} {i : Nat} {x : Tm}, TM.dok d → d.at_ i = some x → SM.sz x.d.is ≤ 5000 ∧ TM.dok x.ks
  | .nil, i, x, _, h => by simp [Tl.at_] at h
  | .cons k n s ps d ks r, 0, x, ⟨h1, h2, h3⟩, h => by
    simp only [Tl.at_, Option.some.injEq] at h
    subst h
    exact ⟨h1, h2⟩
  | .cons k n s ps d ks r, i + 1, x, ⟨h1, h2, h3⟩, h => TM.dok_at h3 (show r.at_ i = some x from h)
/-- the first of some terms, and those behind it -/
theorem TAt.split {w : World} {D : Nat → Prop} {t : Tl} {S : Nat → Prop} {cs : List Value} {i : Nat} {x : Tm} (h : TAt w D (t.dr i) S cs) (hx : t.at_ i = some x) :
    ∃ (S1 S2 : Nat → Prop) (vp vi vk : Value) (c2 : List Value), cs = tcells x vp vi vk ++ c2 ∧ (∀ g, S1 g → S g) ∧ (∀ g, S2 g → S g) ∧ (∀ g, S1 g → S2 g → False) ∧ TmOwn w D S1 x vp vi vk ∧ TAt w D (t.dr (i + 1)) S2 c2 := by
  rw [Tl.dr_at t i x hx] at h
  exact TAt.cons.1 h
def QaN (S : Nat → Prop) (t : Tm) (vp vk : Value) (w : World) (e : Ending) (w' : World) : Prop :=
  ∃ vi', e = .returned (tmv t vp vi' vk) ∧ TmOwn w' (fun g => w.heap.size ≤ g) S t vp vi' vk ∧ Turns S w w'
def QaOk (t : Tm) : Prop := ∀ (w : World) (D S : Nat → Prop) (vp vi vk : Value), TmOwn w D S t vp vi vk → (∀ g, g < w.heap.size → S g → D g → False) → SM.sz t.d.is ≤ 5000 → TM.dok t.ks → TM.sz t.ks ≤ 5000 →
  Calls Tryz.prog 35 #[tmv t vp vi vk] w (QaN S t vp vk w)
theorem slice_of {w : World} {v : Value} {l : List Int} {B : Nat} (h : Own w B v l) : ∃ A m c, v = .slice A m c := by
  obtain ⟨A, c, e, -⟩ := h.read; exact ⟨_, _, _, e⟩
theorem own_differ {w : World} {v u : Value} {l : List Int} {B B' n g : Nat} {cs : List Value} (h : Own w B v l) (k : w.ownsRow B' 28 9 u n cs) (hg : v.ownBlock = some g) (hk : u.ownBlock = some g) : False := by
  rcases h.2 with ⟨rfl, _⟩ | ⟨g1, _, cur1, rfl, _, h1, _⟩
  · simp [Value.ownBlock] at hg
  rcases k.2 with ⟨rfl, _⟩ | ⟨g2, _, cur2, rfl, _, h2, _⟩
  · simp [Value.ownBlock] at hk
  simp [Value.ownBlock] at hg hk
  subst hg hk
  have := h1.symm.trans h2
  simp at this
set_option maxRecDepth 100000 in
set_option maxHeartbeats 8000000 in
theorem qa_step (k n : Int) (s : List UInt8) (ps : List Int) (d : RM.Dm) (ks : Tl) (hR : ∀ i x, ks.at_ i = some x → QaOk x) : QaOk ⟨k, n, s, ps, d, ks⟩ := by
  intro w D S vp vi vk hT0 hSD hsd hdk hsz
  have hT := hT0.mono (S' := fun g => S g ∧ g < w.heap.size) (fun g hg hs => ⟨hs, hg⟩)
  obtain ⟨c0, hp, hpS, hdi, hrow, hkS, hat⟩ := hT
  obtain ⟨P3, L3, p3, rfl⟩ := slice_of hp
  obtain ⟨I7, q7, rfl⟩ := hdi.in_.read
  obtain ⟨A1, c1, rfl, -⟩ := own_read hrow
  have hN63 := own_len hrow
  have hdin := hdi.in_
  simp only at hp hpS hdi hrow hkS hat hsd hdk hsz hN63 hdin ⊢
  have hCo := Lib.hid (fun (w' : World) (hb' : Below w.heap.size w w') => copied_any d w' _ (hdin.below hb') hsd)
  obtain ⟨N, hN⟩ : ∃ N, ks.len = N := ⟨_, rfl⟩
  obtain ⟨L7, hL7⟩ : ∃ x, d.is.len = x := ⟨_, rfl⟩
  unfold tmv
  simp only
  rw [hN] at hrow hkS hat hN63 ⊢
  rw [hL7]
  unfold CpN dtv at hCo
  rw [hL7] at hCo
  have hL := (Lies.made w 28 #[.int .i64 k, .int .i64 n, .string ⟨s.toArray⟩, .slice P3 L3 p3, .int .i64 d.k, .int .i64 d.n, .string ⟨d.s.toArray⟩, .slice I7 L7 q7, .slice A1 N c1]).alloc (.cells #[.int .i64 0, .int .i64 0, .string ⟨#[]⟩, .slice none 0 0, .int .i64 0, .int .i64 0, .string ⟨#[]⟩, .slice none 0 0, .slice none 0 0] 28)
  have hz1 : (w.alloc (.cells #[.int .i64 k, .int .i64 n, .string ⟨s.toArray⟩, .slice P3 L3 p3, .int .i64 d.k, .int .i64 d.n, .string ⟨d.s.toArray⟩, .slice I7 L7 q7, .slice A1 N c1] 28)).heap.size = w.heap.size + 1 := by simp
  have hLr := Lies.made (w.alloc (.cells #[.int .i64 k, .int .i64 n, .string ⟨s.toArray⟩, .slice P3 L3 p3, .int .i64 d.k, .int .i64 d.n, .string ⟨d.s.toArray⟩, .slice I7 L7 q7, .slice A1 N c1] 28)) 28 #[.int .i64 0, .int .i64 0, .string ⟨#[]⟩, .slice none 0 0, .int .i64 0, .int .i64 0, .string ⟨#[]⟩, .slice none 0 0, .slice none 0 0]
  rw [hz1] at hLr
  have hba : Below w.heap.size w ((w.alloc (.cells #[.int .i64 k, .int .i64 n, .string ⟨s.toArray⟩, .slice P3 L3 p3, .int .i64 d.k, .int .i64 d.n, .string ⟨d.s.toArray⟩, .slice I7 L7 q7, .slice A1 N c1] 28)).alloc (.cells #[.int .i64 0, .int .i64 0, .string ⟨#[]⟩, .slice none 0 0, .int .i64 0, .int .i64 0, .string ⟨#[]⟩, .slice none 0 0, .slice none 0 0] 28)) := ((Below.refl _ w).alloc (Nat.le_refl _) _).alloc (by simp) _
  have hN' := Lib.hid hN
  have hR' := Lib.hid hR
  have hsz' := Lib.hid hsz
  have hdk' := Lib.hid hdk
  have hSD' := Lib.hid hSD
  have hp' := Lib.hid hp
  have hpS' := Lib.hid hpS
  have hrow' := Lib.hid hrow
  have hkS' := Lib.hid hkS
  have hat' := Lib.hid hat
  clear hR hN hz1 hsz hdk hSD hp hpS hrow hkS hat hT0 hdi hdin hsd hL7
  go_enter Tryz.func35, Tryz.ntmps35
  go_wp2_with (
    go_at_call 52
    refine (hCo.out _ hba).mono ?_
    rintro e w5 ⟨v5, rfl, hO5, hb5⟩
    obtain ⟨I8, L8, q8, rfl⟩ : ∃ A m c, v5 = .slice A m c := by obtain ⟨A, c, e⟩ := hO5.read; exact ⟨_, _, _, e⟩
    have hM5 := hL.below hb5 hL.lt
    have hMr5 := hLr.below hb5 hLr.lt
    have x4 := hM5.cell 4
    have x5 := hM5.cell 5
    have x6 := hM5.cell 6
    have x7 := hM5.cell 7
    have f4 := hM5.free 4
    have f5 := hM5.free 5
    have f6 := hM5.free 6
    have f7 := hM5.free 7
    have hlt5 := hM5.lt
    have hM6 := (((hM5.stored 4 (.int .i64 d.k)).stored 5 (.int .i64 d.n)).stored 6 (.string ⟨d.s.toArray⟩)).stored 7 (.slice I8 L8 q8)
    have hMr6 := (((hMr5.far (p := ⟨w.heap.size, 4, none⟩) (by simp) (.int .i64 d.k)).far (p := ⟨w.heap.size, 5, none⟩) (by simp) (.int .i64 d.n)).far (p := ⟨w.heap.size, 6, none⟩) (by simp) (.string ⟨d.s.toArray⟩)).far (p := ⟨w.heap.size, 7, none⟩) (by simp) (.slice I8 L8 q8)
    have w8 := hM6.cell 8
    simp only [List.getElem?_cons_succ, List.getElem?_cons_zero, List.set_cons_succ, List.set_cons_zero] at x4 x5 x6 x7 w8)
  simp only [List.set_cons_succ, List.set_cons_zero] at hM6
  have hTs : Turns (fun k => k = w.heap.size) w5 _ := ((((Turns.refl (fun k => k = w.heap.size) w5).setCell (p := ⟨w.heap.size, 4, none⟩) (fun _ => rfl) (.int .i64 d.k)).setCell (p := ⟨w.heap.size, 5, none⟩) (fun _ => rfl) (.int .i64 d.n)).setCell (p := ⟨w.heap.size, 6, none⟩) (fun _ => rfl) (.string ⟨d.s.toArray⟩)).setCell (p := ⟨w.heap.size, 7, none⟩) (fun _ => rfl) (.slice I8 L8 q8)
  have hTw := Lib.hid ((((Turns.of_below hba (fun _ => False)).then (Turns.of_below hb5 (fun _ => False)) (fun _ _ h => h))).then hTs (fun i hi he => by omega))
  have hI6 := Lib.hid ((Dat.ind (Dat.turns hO5 hTs (fun g _ hs he => by simp at hs; omega))).mono (D' := fun g => w.heap.size + 1 < g) (fun g _ hs => by simp at hs; omega))
  have hZ5 : w.heap.size + 1 < w5.heap.size := hMr5.lt
  clear hO5 hb5 hTs hM5 hMr5 hL hLr hCo hba
  have hAt0 := Lib.hid (TAt.turns hTw.out (fun _ _ _ h => h) (fun _ _ _ h => h) hat'.out)
  have hRow0 := Lib.hid (own_turns hrow'.out hTw.out (fun _ _ h => h))
  have hP0 := Lib.hid (hp'.out.turns hTw.out (fun _ _ h => h))
  go_loopw [12] (fun i wr => ∃ (j : Nat) (csd csr : List Value) (Sd Sr : Nat → Prop), j ≤ N ∧ i = .int .i64 j ∧ wr.ownsRow 0 28 9 (.slice A1 N c1) N (csd ++ csr) ∧ TAt wr (fun g => w.heap.size + 1 < g) (ks.tk j) Sd csd ∧ TAt wr D (ks.dr j) Sr csr
      ∧ (∀ g, Sd g → (S g ∧ g < w.heap.size) ∧ (Value.slice A1 N c1).ownBlock ≠ some g ∧ (Value.slice P3 L3 p3).ownBlock ≠ some g) ∧ (∀ g, Sr g → (S g ∧ g < w.heap.size) ∧ (Value.slice A1 N c1).ownBlock ≠ some g ∧ (Value.slice P3 L3 p3).ownBlock ≠ some g) ∧ (∀ g, Sd g → Sr g → False)
      ∧ Own wr 0 (.slice P3 L3 p3) ps ∧ InD wr (fun g => w.heap.size + 1 < g) (.slice I8 L8 q8) d.is ∧ Lies wr w.heap.size 28 [.int .i64 k, .int .i64 n, .string ⟨s.toArray⟩, .slice P3 L3 p3, .int .i64 d.k, .int .i64 d.n, .string ⟨d.s.toArray⟩, .slice I8 L8 q8, .slice A1 N c1] ∧ Lies wr (w.heap.size + 1) 28 [.int .i64 0, .int .i64 0, .string ⟨#[]⟩, .slice none 0 0, .int .i64 0, .int .i64 0, .string ⟨#[]⟩, .slice none 0 0, .slice none 0 0] ∧ Turns (fun g => S g ∧ g < w.heap.size) w wr) (fun i _ => N - (intOf i).toNat)
  case atStart =>
    refine ⟨0, [], c0, fun _ => False, _, Nat.zero_le _, rfl, hRow0.out, ?_, ?_, fun _ h => h.elim, fun _ h => h, fun _ h _ => h, hP0.out, hI6.out, hM6, hMr6, hTw.out.mono (fun _ _ h => h.elim)⟩
    · rw [Tl.tk_zero]; rfl
    · rw [Tl.dr_zero]; exact hAt0.out
  case round =>
    obtain ⟨j, csd, csr, Sd, Sr, hj, rfl, hOr, hAd, hAr, hSd, hSr, hdj, hPr, hIr, hMb, hMr, hTr⟩ := hrel
    have hOr' := Lib.hid hOr
    have hAd' := Lib.hid hAd
    have hAr' := Lib.hid hAr
    have hSd' := Lib.hid hSd
    have hSr' := Lib.hid hSr
    have hdj' := Lib.hid hdj
    have hPr' := Lib.hid hPr
    have hIr' := Lib.hid hIr
    have hTr' := Lib.hid hTr
    have y8 : wr.cell? ⟨w.heap.size, 8, none⟩ = some (.slice A1 N c1) := hMb.cell 8
    clear hM6 hMr6 hOr hAd hAr hSd hSr hdj hPr hIr hTr w8 x4 x5 x6 x7 f4 f5 f6 f7 hAt0 hRow0 hP0 hTw hI6
    by_cases hlt : j < N
    · obtain ⟨x, hx⟩ := ks.at_some j (by rw [hN'.out]; exact hlt)
      obtain ⟨S1, S2, vp5, vi5, vk5, csq, hcs, hS1, hS2, hS12, hT5, hRw2⟩ := hAr'.out.split hx
      have hcl : csd.length = j * 9 := by have h1 := hAd'.out.len; rw [Tl.tk_len ks j (by rw [hN'.out]; exact hj)] at h1; exact h1
      obtain ⟨P5, m5, p5, rfl⟩ : ∃ A m c, vp5 = .slice A m c := by obtain ⟨A, c, e⟩ := hT5.tmin.p.read; exact ⟨_, _, _, e⟩
      obtain ⟨I5, l5, q5, rfl⟩ : ∃ A m c, vi5 = .slice A m c := by obtain ⟨A, c, e⟩ := hT5.tmin.d.read; exact ⟨_, _, _, e⟩
      obtain ⟨K5, n5, r5, rfl⟩ : ∃ A m c, vk5 = .slice A m c := by obtain ⟨A, c, e⟩ := hT5.tmin.k.read; exact ⟨_, _, _, e⟩
      subst hcs
      have hOr2 := hOr'.out
      obtain ⟨A9, c9, e9, hrd⟩ := own_read hOr2
      obtain ⟨g, hB9, -, hg2, hg0⟩ := hrd (j * 9) (by omega)
      have hB5 : A1 = some ⟨g, 0, none⟩ := by injection e9 with e; rw [e, hB9]
      subst hB5
      have rc : ∀ i u, (tcells x (.slice P5 m5 p5) (.slice I5 l5 q5) (.slice K5 n5 r5))[i]? = some u → i < 9 → wr.cell? ⟨g, j * 9 + i, none⟩ = some u := fun i u hu hi => by
        rw [hOr2.cellAt (j * 9 + i) (by omega), List.getElem?_append_right (by omega), hcl, Nat.add_sub_cancel_left, List.getElem?_append_left (by simp [tcells]; omega)]
        exact hu
      have c10 := rc 0 _ rfl (by omega)
      have c11 := rc 1 _ rfl (by omega)
      have c12 := rc 2 _ rfl (by omega)
      have c13 := rc 3 _ rfl (by omega)
      have c14 := rc 4 _ rfl (by omega)
      have c15 := rc 5 _ rfl (by omega)
      have c16 := rc 6 _ rfl (by omega)
      have c17 := rc 7 _ rfl (by omega)
      have c18 := rc 8 _ rfl (by omega)
      rw [Nat.add_zero] at c10
      have hfrz : ∀ i, wr.frozen? ⟨g, i, none⟩ = false := fun i => hOr2.frozenAt i
      have hgS := hkS'.out g rfl
      have hgw : g < w.heap.size := hgS.2
      have htk := Tl.tk_snoc ks j x hx
      have hzx : TM.sz x.ks ≤ 5000 := by have h1 := TM.sz_in hx; have := hsz'.out; omega
      have hdx := TM.dok_at hdk'.out hx
      have hT5' := Lib.hid hT5
      have hS1' := Lib.hid hS1
      have hC := Lib.hid (fun (w' : World) (k : Agr (fun g => g < wr.heap.size) wr w') (ht : TmOwn w' D S1 x (.slice P5 m5 p5) (.slice I5 l5 q5) (.slice K5 n5 r5)) => hR'.out j x hx w' D S1 _ _ _ ht (fun g' _ h1 h2 => hSD'.out g' (hSr'.out g' (hS1'.out g' h1)).1.2 (hSr'.out g' (hS1'.out g' h1)).1.1 h2) hdx.1 hdx.2 hzx)
      have hKa : Below wr.heap.size wr (wr.alloc (.cells #[.int .i64 x.k, .int .i64 x.n, .string ⟨x.s.toArray⟩, .slice P5 m5 p5, .int .i64 x.d.k, .int .i64 x.d.n, .string ⟨x.d.s.toArray⟩, .slice I5 l5 q5, .slice K5 n5 r5] 28)) := (Below.refl _ wr).alloc (Nat.le_refl _) _
      have hTk := Lib.hid (hT5.turns ((Turns.of_below hKa (fun _ => False)).drew) (fun _ _ _ h => h) (fun _ _ _ h => h))
      unfold QaN tmv at hC
      have htk' := Lib.hid htk
      have hRw3 := Lib.hid hRw2
      have hcl' := Lib.hid hcl
      have hOr3 := Lib.hid hOr2
      have hKa' := Lib.hid hKa
      have hS2' := Lib.hid hS2
      have hS12' := Lib.hid hS12
      have hgS' := Lib.hid hgS
      have hag : Agr (fun g => g < wr.heap.size) wr (wr.alloc (.cells #[.int .i64 x.k, .int .i64 x.n, .string ⟨x.s.toArray⟩, .slice P5 m5 p5, .int .i64 x.d.k, .int .i64 x.d.n, .string ⟨x.d.s.toArray⟩, .slice I5 l5 q5, .slice K5 n5 r5] 28)).drew := Agr.of_turns ((Turns.of_below hKa (fun _ => False)).drew) (fun _ _ _ h => h)
      have hag' := Lib.hid hag
      have hwr : w.heap.size + 1 < wr.heap.size := hMr.lt
      clear rc hrd htk hzx hT5 hRw2 hcl hx hOr2 hB9 hg0 hAr' e9 hOr' hKa hdx hS1 hS2 hS12 hgS hag
      go_wp2_with fail
      have hbw : w.heap.size < wr.heap.size := by omega
      go_region_with (
        go_at_call 35
        refine (hC.out _ hag'.out hTk.out).mono ?_
        rintro e w7 ⟨vi6, rfl, hTo, hb7⟩
        obtain ⟨I6, l6, q6, rfl⟩ : ∃ A m c, vi6 = .slice A m c := by obtain ⟨A, c, e⟩ := hTo.tmin.d.read; exact ⟨_, _, _, e⟩
        have Tb : Turns S1 wr w7 := (Turns.of_below hKa'.out S1).drew.then hb7 (fun _ _ h => h)
        have hMb7 := hMb.turns Tb (fun h => by have := (hSr'.out _ (hS1'.out _ h)).1.2; omega)
        have k8 : w7.cell? ⟨w.heap.size, 8, none⟩ = some (.slice (some ⟨g, 0, none⟩) N c1) := hMb7.cell 8
        have hOr7 := own_turns hOr3.out Tb (fun g' hg' h => (hSr'.out _ (hS1'.out _ h)).2.1 hg')
        have hfr7 : ∀ i, w7.frozen? ⟨g, i, none⟩ = false := fun i => hOr7.frozenAt i
        have rc7 : ∀ i u, (tcells x (.slice P5 m5 p5) (.slice I5 l5 q5) (.slice K5 n5 r5))[i]? = some u → i < 9 → w7.cell? ⟨g, j * 9 + i, none⟩ = some u := fun i u hu hi => by
          rw [hOr7.cellAt (j * 9 + i) (by omega), List.getElem?_append_right (by rw [hcl'.out]; omega), hcl'.out, Nat.add_sub_cancel_left, List.getElem?_append_left (by simp [tcells]; omega)]
          exact hu
        have e10 := rc7 0 _ rfl (by omega)
        have e11 := rc7 1 _ rfl (by omega)
        have e12 := rc7 2 _ rfl (by omega)
        have e13 := rc7 3 _ rfl (by omega)
        have e14 := rc7 4 _ rfl (by omega)
        have e15 := rc7 5 _ rfl (by omega)
        have e16 := rc7 6 _ rfl (by omega)
        have e17 := rc7 7 _ rfl (by omega)
        have e18 := rc7 8 _ rfl (by omega)
        rw [Nat.add_zero] at e10
        have R7 := Lib.hid (And.intro hTo (And.intro Tb (And.intro hOr7 hMb7)))
        clear hTo hb7 Tb hMb7 hOr7 rc7)
      all_goals
        clear k8 hfr7 e10 e11 e12 e13 e14 e15 e16 e17 e18
        obtain ⟨hTo, Tb, hOr7, hMb7⟩ := R7.out
        have T9 := nine_turns (Tb.mono (Y := fun k => S1 k ∨ k = g) (fun _ _ h => .inl h)) (g := g) (fun _ => .inr rfl) (j * 9) (.int .i64 x.k) (.int .i64 x.n) (.string ⟨x.s.toArray⟩) (.slice P5 m5 p5) (.int .i64 x.d.k) (.int .i64 x.d.n) (.string ⟨x.d.s.toArray⟩) (.slice I6 l6 q6) (.slice K5 n5 r5)
        have T7 := nine_turns (Turns.refl (fun k => k = g) w7) (g := g) (fun _ => rfl) (j * 9) (.int .i64 x.k) (.int .i64 x.n) (.string ⟨x.s.toArray⟩) (.slice P5 m5 p5) (.int .i64 x.d.k) (.int .i64 x.d.n) (.string ⟨x.d.s.toArray⟩) (.slice I6 l6 q6) (.slice K5 n5 r5)
        have nS1 : ∀ g', S1 g' → g' ≠ g := fun g' h e => (hSr'.out _ (hS1'.out _ h)).2.1 (by rw [e]; rfl)
        have nSd : ∀ g', Sd g' → g' ≠ g := fun g' h e => (hSd'.out _ h).2.1 (by rw [e]; rfl)
        have hMbf := Lib.hid (nine_far hMb7 (g := g) (by omega) (j * 9) (.int .i64 x.k) (.int .i64 x.n) (.string ⟨x.s.toArray⟩) (.slice P5 m5 p5) (.int .i64 x.d.k) (.int .i64 x.d.n) (.string ⟨x.d.s.toArray⟩) (.slice I6 l6 q6) (.slice K5 n5 r5))
        have hOf := Lib.hid (nine_row hOr7 hcl'.out (.int .i64 x.k) (.int .i64 x.n) (.string ⟨x.s.toArray⟩) (.slice P5 m5 p5) (.int .i64 x.d.k) (.int .i64 x.d.n) (.string ⟨x.d.s.toArray⟩) (.slice I6 l6 q6) (.slice K5 n5 r5))
        have hTo9 := (hTo.turns T7 (fun g' _ hs he => nS1 g' hs he) (fun g' _ hs he => by simp at hs; omega)).dmono (D' := fun g' => w.heap.size + 1 < g') (fun g' _ hs => by simp at hs; omega)
        have hAw := TAt.turns T9 (fun g' _ hs he => by
          rcases he with he | he
          · exact hdj'.out g' hs (hS1'.out g' he)
          · exact nSd g' hs he) (fun g' _ hs he => by
          rcases he with he | he
          · have := (hSr'.out _ (hS1'.out _ he)).1.2; omega
          · omega) hAd'.out
        have hAf := Lib.hid (TAt.app hAw hTo9.at_ (fun g' _ h1 h2 => hdj'.out g' h1 (hS1'.out g' h2)))
        have hArf := Lib.hid (TAt.turns T9 (fun g' _ hs he => by
          rcases he with he | he
          · exact hS12'.out g' he hs
          · exact (hSr'.out _ (hS2'.out _ hs)).2.1 (by rw [he]; rfl)) (fun g' _ hs he => by
          rcases he with he | he
          · exact hSD'.out g' (hSr'.out _ (hS1'.out _ he)).1.2 (hSr'.out _ (hS1'.out _ he)).1.1 hs
          · subst he; exact hSD'.out g' hgS'.out.2 hgS'.out.1 hs) hRw3.out)
        have hPf := Lib.hid (hPr'.out.turns T9 (fun g' hg' he => by
          rcases he with he | he
          · exact (hSr'.out _ (hS1'.out _ he)).2.2 hg'
          · subst he
            exact own_differ hPr'.out hOr3.out hg' rfl))
        have hIf := Lib.hid (hIr'.out.agr (Agr.of_turns T9 (fun g' _ hs he => by
          rcases he with he | he
          · have := (hSr'.out _ (hS1'.out _ he)).1.2; omega
          · omega)))
        have hMrf := Lib.hid (hMr.turns T9 (fun he => by
          rcases he with he | he
          · have := (hSr'.out _ (hS1'.out _ he)).1.2; omega
          · omega))
        have hTf := Lib.hid (hTr'.out.then T9 (fun i hi he => by
          rcases he with he | he
          · exact (hSr'.out _ (hS1'.out _ he)).1
          · subst he; exact hgS'.out))
        clear hTo Tb hMb7 hOr7 T9 T7 hTo9 hAw R7 nS1 nSd
        go_wp2_with fail
        go_roundw
        case rel =>
          refine ⟨j + 1, _, csq, fun g' => Sd g' ∨ S1 g', S2, by omega, by go_num, hOf.out, ?_, hArf.out, fun g' h => h.elim (hSd'.out g') (fun h => hSr'.out g' (hS1'.out g' h)), fun g' h => hSr'.out g' (hS2'.out g' h), fun g' h1 h2 => h1.elim (fun h => hdj'.out g' h (hS2'.out g' h2)) (fun h => hS12'.out g' h h2), hPf.out, hIf.out, hMbf.out, hMrf.out, hTf.out⟩
          rw [htk'.out]; exact hAf.out
        case measure => simp [intOf]; omega
    · obtain rfl : j = N := by omega
      have hcr : csr = [] := by have h := hAr'.out; rw [Tl.dr_end ks j (by rw [hN'.out]; exact Nat.le_refl _)] at h; exact h
      have hall : ks.tk j = ks := by rw [← hN'.out]; exact Tl.tk_all ks
      subst hcr
      have hOr2 := hOr'.out
      rw [List.append_nil] at hOr2
      have hOr3 := Lib.hid hOr2
      have hall' := Lib.hid hall
      have z0 := hMb.cell 0
      have fz0 := hMr.free 0
      have cz0 := hMr.cell 0
      have z1 := hMb.cell 1
      have fz1 := hMr.free 1
      have cz1 := hMr.cell 1
      have z2 := hMb.cell 2
      have fz2 := hMr.free 2
      have cz2 := hMr.cell 2
      have z3 := hMb.cell 3
      have fz3 := hMr.free 3
      have cz3 := hMr.cell 3
      have z4 := hMb.cell 4
      have fz4 := hMr.free 4
      have cz4 := hMr.cell 4
      have z5 := hMb.cell 5
      have fz5 := hMr.free 5
      have cz5 := hMr.cell 5
      have z6 := hMb.cell 6
      have fz6 := hMr.free 6
      have cz6 := hMr.cell 6
      have z7 := hMb.cell 7
      have fz7 := hMr.free 7
      have cz7 := hMr.cell 7
      have z8 := hMb.cell 8
      have fz8 := hMr.free 8
      have cz8 := hMr.cell 8
      have hltr := hMr.lt
      simp only [List.getElem?_cons_succ, List.getElem?_cons_zero] at z0 z1 z2 z3 z4 z5 z6 z7 z8 cz0 cz1 cz2 cz3 cz4 cz5 cz6 cz7 cz8
      clear hOr2 hall y8 hOr' hAr'
      go_wp2_with fail
      have Tz := nine_turns (Turns.refl (fun k => k = w.heap.size + 1) wr) (g := w.heap.size + 1) (fun _ => rfl) 0 (.int .i64 k) (.int .i64 n) (.string ⟨s.toArray⟩) (.slice P3 L3 p3) (.int .i64 d.k) (.int .i64 d.n) (.string ⟨d.s.toArray⟩) (.slice I8 L8 q8) (.slice A1 j c1)
      have hTz := (hTr'.out.mono (Y := S) (fun _ _ h => h.1)).then Tz (fun i hi he => by omega)
      have hMz := nine_res hMr (w.heap.size + 1) rfl (.int .i64 k) (.int .i64 n) (.string ⟨s.toArray⟩) (.slice P3 L3 p3) (.int .i64 d.k) (.int .i64 d.n) (.string ⟨d.s.toArray⟩) (.slice I8 L8 q8) (.slice A1 j c1)
      have rz0 := hMz.cell 0
      have rz1 := hMz.cell 1
      have rz2 := hMz.cell 2
      have rz3 := hMz.cell 3
      have rz4 := hMz.cell 4
      have rz5 := hMz.cell 5
      have rz6 := hMz.cell 6
      have rz7 := hMz.cell 7
      have rz8 := hMz.cell 8
      unfold nine at rz0 rz1 rz2 rz3 rz4 rz5 rz6 rz7 rz8
      simp only [List.getElem?_cons_succ, List.getElem?_cons_zero, Nat.zero_add] at rz0 rz1 rz2 rz3 rz4 rz5 rz6 rz7 rz8
      refine bodyPost_ret (v := .agg #[.int .i64 k, .int .i64 n, .string ⟨s.toArray⟩, .slice P3 L3 p3, .int .i64 d.k, .int .i64 d.n, .string ⟨d.s.toArray⟩, .slice I8 L8 q8, .slice A1 j c1]) (by simp [results, Tryz.results35, go_sem, rz0, rz1, rz2, rz3, rz4, rz5, rz6, rz7, rz8]) rfl ⟨.slice I8 L8 q8, rfl, ⟨csd, ?_, ?_, ?_, ?_, ?_, ?_⟩, hTz⟩
      · exact hPr'.out.turns Tz (fun g' hg' he => by have h1 := hpS'.out g' hg'; omega)
      · exact fun g' hg' => (hpS'.out g' hg').1
      · exact (hIr'.out.agr (Agr.of_turns Tz (fun g' _ h e => by omega))).mono (fun g' _ h => by omega)
      · have h1 := own_turns hOr3.out Tz (fun g' hg' he => by have h1 := hkS'.out g' hg'; omega)
        show World.ownsRow _ 0 _ 9 _ ks.len csd
        rw [hN'.out]
        exact h1
      · exact fun g' hg' => (hkS'.out g' hg').1
      · have h1 := hAd'.out
        rw [hall'.out] at h1
        have h2 := TAt.turns Tz (fun g' _ hs he => by have h3 := (hSd'.out g' hs).1.2; omega) (fun g' _ hs he => by omega) h1
        exact TAt.dmono (fun g' _ h => by omega) (TAt.mono (fun g' _ hs => ⟨(hSd'.out g' hs).1.1, (hSd'.out g' hs).2.1, (hSd'.out g' hs).2.2⟩) h2)
theorem apart_any (t : Tm) : QaOk t := Tl.all_one QaOk qa_step t
end Go.Proofs.YthbgopmpdkefkaaGreatDoor

/- Package term: Check. -/
namespace Go.Proofs.YthbgopmpdkefkaaGreatDoor
open Go.ChangeShapes Go.WideShapes Go.ChangeAt Go.RowKit Go.Deep
open TM (Tl Tm)

set_option maxRecDepth 100000 in
set_option maxHeartbeats 2000000 in
theorem tcheck_any (t : Tm) (w : World) (vp vi vk : Value) (hT : TmIn w t vp vi vk) (hB : TmBd t) :
    Calls Tryz.prog 9 #[tmv t vp vi vk] w fun e w' => e = .returned (chv (TM.okt t)) ∧ Went w w' := by
  have hP := Lib.hid (fun (w' : World) (hb : Below w.heap.size w w') => parts_any t vp vi vk w' (hT.below hb))
  have hR := Lib.hid (fun (w' : World) (q : Nat) (hb : Below w.heap.size w w') (hq : w.heap.size ≤ q) (hI : Im w' q 0 (TM.ls [] [])) (hm : TM.sz t.ks + 1 ≤ 4000) => isRight_any t w w' q 0 [] [] 1 vp vi vk hT hB hb hq hI (fun _ h => h) (by omega) (by omega) (by omega))
  obtain ⟨okb, hok⟩ : ∃ okb, TM.okt t = okb := ⟨_, rfl⟩
  rw [hok]
  unfold TM.okt at hok
  obtain ⟨Y, hY⟩ : ∃ Y, min (TM.sz t.ks + 1) 5000 = Y := ⟨_, rfl⟩
  rw [hY] at hP
  unfold tmv at hP hR ⊢
  have hmm := @run_makeMap Tryz.prog
  have hL := Lies.made w 28 #[.int .i64 t.k, .int .i64 t.n, .string ⟨t.s.toArray⟩, vp, .int .i64 t.d.k, .int .i64 t.d.n, .string ⟨t.d.s.toArray⟩, vi, vk]
  have hb1 : Below w.heap.size w (w.alloc (.cells #[.int .i64 t.k, .int .i64 t.n, .string ⟨t.s.toArray⟩, vp, .int .i64 t.d.k, .int .i64 t.d.n, .string ⟨t.d.s.toArray⟩, vi, vk] 28)) := (Below.refl _ w).alloc (Nat.le_refl _) _
  by_cases h4 : TM.sz t.ks + 1 ≤ 4000
  · have hYe : Y ≤ 4000 := by omega
    have hY' := Lib.hid hY
    rw [decide_eq_true h4, Bool.true_and, Bool.and_assoc, Bool.and_comm (TM.frs _ _), show decide (TM.hi t.ks + 1 ≤ 200) = decide (1 + (TM.hi t.ks : Int) ≤ 200) from decide_eq_decide.2 (by omega)] at hok
    have hR1 := Lib.hid (fun (w' : World) (q : Nat) (hb : Below w.heap.size w w') (hq : w.heap.size ≤ q) (hI : Im w' q 0 (TM.ls [] [])) => hR.out w' q hb hq hI h4)
    rw [hok] at hR1
    unfold LocsN at hR1
    clear hR hok hY hT hB h4
    have hls : TM.ls [] [] = fun _ => 0 := by funext x; simp [TM.ls]
    have hls' := Lib.hid hls
    clear hls
    cases okb
    all_goals
      unfold chv
      go_enter Tryz.func9, Tryz.ntmps9
      go_wp2_with (first
        | (go_at_call 11
           refine (hP.out _ hb1).mono ?_
           rintro e w2 ⟨rfl, hb2⟩
           have hb3 := hb1.trans (hb2.mono hb1.size)
           have hL2 := hL.below hb2 hL.lt
           have hL3 := hL2.alloc (.map #[] 0)
           have hlt := hL2.lt
           have z0 := hL2.cell 0
           have z1 := hL2.cell 1
           have z2 := hL2.cell 2
           have z3 := hL2.cell 3
           have z4 := hL2.cell 4
           have z5 := hL2.cell 5
           have z6 := hL2.cell 6
           have z7 := hL2.cell 7
           have z8 := hL2.cell 8
           have y0 := hL3.cell 0
           have y1 := hL3.cell 1
           have y2 := hL3.cell 2
           have y3 := hL3.cell 3
           have y4 := hL3.cell 4
           have y5 := hL3.cell 5
           have y6 := hL3.cell 6
           have y7 := hL3.cell 7
           have y8 := hL3.cell 8
           simp only [List.getElem?_cons_succ, List.getElem?_cons_zero] at z0 z1 z2 z3 z4 z5 z6 z7 z8 y0 y1 y2 y3 y4 y5 y6 y7 y8
           have hI3 : Im (w2.alloc (.map #[] 0)) w2.heap.size 0 (TM.ls [] []) := by rw [hls'.out]; exact Im.made w2
           have hI3' := Lib.hid hI3
           have hsz := Lib.hid hb3.size
           have hb4 := hb3.alloc hsz.out (.map #[] 0)
           clear hb2 hI3)
        | (go_at_call 27
           refine (hR1.out _ _ hb4 hsz.out hI3'.out).mono ?_
           rintro e w5 ⟨rfl, hT5, -⟩
           have hb6 := below_of_turns hb4 hT5 hsz.out))
      go_ret
      exact ⟨rfl, hb6⟩
  · have hYe : 4000 < Y := by omega
    obtain rfl : okb = false := by rw [← hok, decide_eq_false h4]; simp
    clear hR hok hY hT hB h4
    unfold chv
    go_enter Tryz.func9, Tryz.ntmps9
    go_wp2_with (
      go_at_call 11
      refine (hP.out _ hb1).mono ?_
      rintro e w2 ⟨rfl, hb2⟩
      have hb3 := hb1.trans (hb2.mono hb1.size))
    go_ret
    exact ⟨rfl, hb3⟩
end Go.Proofs.YthbgopmpdkefkaaGreatDoor

/- Package term: Alpha. -/
namespace Go.Proofs.YthbgopmpdkefkaaGreatDoor
open Go.ChangeShapes Go.WideShapes Go.ChangeAt Go.RowKit Go.Deep
open TM (Tl Tm)

namespace TM
theorem quo_sz {d : RM.Dm} (h : quo d = true) : SM.sz d.is ≤ 5000 := by
  unfold quo at h
  split at h
  · simp only [Bool.and_eq_true, decide_eq_true_eq] at h
    have : d.is = .nil := by
      cases hd : d.is with
      | nil => rfl
      | cons => rw [hd] at h; simp [RM.Dl.len] at h
    rw [this]; simp [SM.sz]
  · unfold SM.okd at h
    simp only [Bool.and_eq_true, decide_eq_true_eq] at h
    omega
theorem nod_sz {d : RM.Dm} (h : nod d = true) : SM.sz d.is ≤ 5000 := by
  unfold nod at h
  simp only [Bool.and_eq_true, decide_eq_true_eq] at h
  have : d.is = .nil := by
    cases hd : d.is with
    | nil => rfl
    | cons => rw [hd] at h; simp [RM.Dl.len] at h
  rw [this]; simp [SM.sz]
theorem fit_data {bd : List Int} {t : Tm} (h : fit bd t = true) : quo t.d = true ∨ nod t.d = true := by
  unfold fit at h
  split at h
  · simp only [Bool.and_eq_true] at h; exact .inl h.2
  repeat
    split at h
    · simp only [Bool.and_eq_true] at h; exact .inr h.2
  · simp at h
theorem fit_sz {bd : List Int} {t : Tm} (h : fit bd t = true) : SM.sz t.d.is ≤ 5000 := (fit_data h).elim quo_sz nod_sz
theorem rtl_dok : ∀ {bd : List Int} {d : Tl}, rtl bd d = true → dok d
  | _, .nil, _ => trivial
  | bd, .cons k n s ps d ks r, h => by
    simp only [rtl, Bool.and_eq_true] at h
    exact ⟨fit_sz h.1.1, rtl_dok h.1.2, rtl_dok h.2⟩
theorem rtl_prs : ∀ {bd : List Int} {d : Tl}, rtl bd d = true → (prs d).length ≤ 24 * sz d
  | _, .nil, _ => by simp [prs, sz]
  | bd, .cons k n s ps d ks r, h => by
    simp only [rtl, Bool.and_eq_true] at h
    have h1 := fit_len h.1.1
    have h2 := rtl_prs h.1.2
    have h3 := rtl_prs h.2
    simp only [prs, sz, List.length_append] at h1 ⊢
    omega
theorem nmt_dok (l : List Int) : ∀ {d : Tl}, dok d → dok (nmt l d)
  | .nil, _ => trivial
  | .cons _ _ _ _ _ _ _, ⟨h1, h2, h3⟩ => ⟨h1, nmt_dok l h2, nmt_dok l h3⟩
theorem nmt_sz (l : List Int) : ∀ d : Tl, sz (nmt l d) = sz d
  | .nil => rfl
  | .cons _ _ _ _ _ ks r => by simp only [nmt, sz]; rw [nmt_sz l ks, nmt_sz l r]
theorem okt_parts {t : Tm} (h : okt t = true) : sz t.ks + 1 ≤ 4000 ∧ hi t.ks + 1 ≤ 200 ∧ frs [] (t.ps ++ prs t.ks) = true ∧ ok1 [] t = true ∧ SM.sz t.d.is ≤ 5000 ∧ dok t.ks ∧ (t.ps ++ prs t.ks).length ≤ 100000 := by
  unfold okt at h
  simp only [Bool.and_eq_true, decide_eq_true_eq] at h
  obtain ⟨⟨⟨h1, h2⟩, h3⟩, h4⟩ := h
  have h5 := h4
  rw [ok1, Bool.and_eq_true] at h5
  have h6 := fit_len h5.1
  have h7 := rtl_prs h5.2
  refine ⟨h1, h2, h3, h4, fit_sz h5.1, rtl_dok h5.2, ?_⟩
  rw [List.length_append]
  omega
end TM
def zerov : Value := .agg #[.int .i64 0, .int .i64 0, .string ⟨#[]⟩, .slice none 0 0, .int .i64 0, .int .i64 0, .string ⟨#[]⟩, .slice none 0 0, .slice none 0 0]
def AlN (t : Tm) (w : World) (e : Ending) (w' : World) : Prop :=
  (TM.okt t = true → ∃ vp vi vk, e = .returned (.tuple #[tmv (TM.alpha t) vp vi vk, .nilIface]) ∧ TmIn w' (TM.alpha t) vp vi vk) ∧ (TM.okt t = false → e = .returned (.tuple #[zerov, .iface 37 (.int .i64 7)])) ∧ Went w w'
set_option maxRecDepth 100000 in
set_option maxHeartbeats 4000000 in
theorem alpha_any (t : Tm) (w : World) (vp vi vk : Value) (hT : TmIn w t vp vi vk) (hB : TmBd t) :
    Calls Tryz.prog 15 #[tmv t vp vi vk] w (AlN t w) := by
  have hC := Lib.hid (fun (w' : World) (hb : Below w.heap.size w w') => tcheck_any t w' vp vi vk (hT.below hb) hB)
  have hmm := @run_makeMap Tryz.prog
  have hL := (Lies.made w 28 #[.int .i64 t.k, .int .i64 t.n, .string ⟨t.s.toArray⟩, vp, .int .i64 t.d.k, .int .i64 t.d.n, .string ⟨t.d.s.toArray⟩, vi, vk]).alloc (.cells #[.int .i64 0, .int .i64 0, .string ⟨#[]⟩, .slice none 0 0, .int .i64 0, .int .i64 0, .string ⟨#[]⟩, .slice none 0 0, .slice none 0 0] 28)
  have hz1 : (w.alloc (.cells #[.int .i64 t.k, .int .i64 t.n, .string ⟨t.s.toArray⟩, vp, .int .i64 t.d.k, .int .i64 t.d.n, .string ⟨t.d.s.toArray⟩, vi, vk] 28)).heap.size = w.heap.size + 1 := by simp
  have hLr := Lies.made (w.alloc (.cells #[.int .i64 t.k, .int .i64 t.n, .string ⟨t.s.toArray⟩, vp, .int .i64 t.d.k, .int .i64 t.d.n, .string ⟨t.d.s.toArray⟩, vi, vk] 28)) 28 #[.int .i64 0, .int .i64 0, .string ⟨#[]⟩, .slice none 0 0, .int .i64 0, .int .i64 0, .string ⟨#[]⟩, .slice none 0 0, .slice none 0 0]
  rw [hz1] at hLr
  have hba : Below w.heap.size w ((w.alloc (.cells #[.int .i64 t.k, .int .i64 t.n, .string ⟨t.s.toArray⟩, vp, .int .i64 t.d.k, .int .i64 t.d.n, .string ⟨t.d.s.toArray⟩, vi, vk] 28)).alloc (.cells #[.int .i64 0, .int .i64 0, .string ⟨#[]⟩, .slice none 0 0, .int .i64 0, .int .i64 0, .string ⟨#[]⟩, .slice none 0 0, .slice none 0 0] 28)) :=
    ((Below.refl _ w).alloc (Nat.le_refl _) _).alloc (by simp) _
  clear hz1
  cases hok : TM.okt t
  · rw [hok] at hC
    have hok' := Lib.hid hok
    unfold chv tmv at hC
    unfold tmv
    clear hok hT hB
    go_enter Tryz.func15, Tryz.ntmps15
    go_wp2_with (
      go_at_call 9
      refine (hC.out _ hba).mono ?_
      rintro e w2 ⟨rfl, hb2⟩
      have hb3 : Below w.heap.size w w2 := hba.trans (Below.mono hb2 (by simp; omega))
      have hMr2 := hLr.below hb2 hLr.lt
      have cz0 := hMr2.cell 0
      have cz1 := hMr2.cell 1
      have cz2 := hMr2.cell 2
      have cz3 := hMr2.cell 3
      have cz4 := hMr2.cell 4
      have cz5 := hMr2.cell 5
      have cz6 := hMr2.cell 6
      have cz7 := hMr2.cell 7
      have cz8 := hMr2.cell 8
      have fz0 := hMr2.free 0
      have fz1 := hMr2.free 1
      have fz2 := hMr2.free 2
      have fz3 := hMr2.free 3
      have fz4 := hMr2.free 4
      have fz5 := hMr2.free 5
      have fz6 := hMr2.free 6
      have fz7 := hMr2.free 7
      have fz8 := hMr2.free 8
      have hlt2 := hMr2.lt
      simp only [List.getElem?_cons_succ, List.getElem?_cons_zero] at cz0 cz1 cz2 cz3 cz4 cz5 cz6 cz7 cz8
      clear hb2)
    have hTz := (Turns.of_below hb3 (fun _ => False)).then (nine_turns (Turns.refl (fun k => k = w.heap.size + 1) w2) (g := w.heap.size + 1) (fun _ => rfl) 0 (.int .i64 0) (.int .i64 0) (.string ⟨#[]⟩) (.slice none 0 0) (.int .i64 0) (.int .i64 0) (.string ⟨#[]⟩) (.slice none 0 0) (.slice none 0 0)) (fun i hi he => by omega)
    have hMz := nine_res hMr2 (w.heap.size + 1) rfl (.int .i64 0) (.int .i64 0) (.string ⟨#[]⟩) (.slice none 0 0) (.int .i64 0) (.int .i64 0) (.string ⟨#[]⟩) (.slice none 0 0) (.slice none 0 0)
    have rz0 := hMz.cell 0
    have rz1 := hMz.cell 1
    have rz2 := hMz.cell 2
    have rz3 := hMz.cell 3
    have rz4 := hMz.cell 4
    have rz5 := hMz.cell 5
    have rz6 := hMz.cell 6
    have rz7 := hMz.cell 7
    have rz8 := hMz.cell 8
    unfold nine at rz0 rz1 rz2 rz3 rz4 rz5 rz6 rz7 rz8
    simp only [List.getElem?_cons_succ, List.getElem?_cons_zero, Nat.zero_add] at rz0 rz1 rz2 rz3 rz4 rz5 rz6 rz7 rz8
    exact bodyPost_ret (v := .tuple #[zerov, .iface 37 (.int .i64 7)]) (by simp [zerov, results, Tryz.results15, go_sem, rz0, rz1, rz2, rz3, rz4, rz5, rz6, rz7, rz8]) rfl ⟨fun h => by rw [hok'.out] at h; simp at h, fun _ => rfl, hTz.below (Nat.le_refl _) (fun _ h => h.elim)⟩
  · rw [hok] at hC
    obtain ⟨h1, h2, h3, h4, h5, h6, h7⟩ := TM.okt_parts hok
    have hN := Lib.hid (fun (w' : World) (q : Nat) (hb : Below w.heap.size w w') (hq : w.heap.size ≤ q) (hI : Im w' q 0 (TM.pl [])) => term_any t w w' q [] [] (t.ps ++ TM.prs t.ks) vp vi vk hT hB hb hq hI (fun _ h => h) h4 h3 ⟨[], by simp⟩ (by simpa using Nat.le_trans h7 (by omega)) (by omega))
    have hQ := Lib.hid (fun (w' : World) (S : Nat → Prop) (vp' vi' vk' : Value) (ht : TmOwn w' (fun g => g < w.heap.size) S (TM.alpha t) vp' vi' vk') (hS : ∀ g, S g → w.heap.size ≤ g) => apart_any (TM.alpha t) w' (fun g => g < w.heap.size) S vp' vi' vk' ht (fun g _ hs hd => by have := hS g hs; omega) h5 (TM.nmt_dok _ h6) (by rw [show (TM.alpha t).ks = TM.nmt (t.ps ++ TM.prs t.ks) t.ks from rfl, TM.nmt_sz]; omega))
    have hok' := Lib.hid hok
    have hpl : TM.pl [] = fun _ => 0 := by funext x; simp [TM.pl]
    have hpl' := Lib.hid hpl
    have hal : TM.nm1 (t.ps ++ TM.prs t.ks) t = TM.alpha t := rfl
    unfold NumN at hN
    rw [hal] at hN
    unfold QaN at hQ
    unfold chv tmv at hC
    unfold tmv at hN hQ
    unfold tmv
    clear hok hT hB h1 h2 h3 h4 h5 h6 h7 hpl hal
    go_enter Tryz.func15, Tryz.ntmps15
    go_wp2_with (first
      | (go_at_call 9
         refine (hC.out _ hba).mono ?_
         rintro e w2 ⟨rfl, hb2⟩
         have hb3 : Below w.heap.size w w2 := hba.trans (Below.mono hb2 (by simp; omega))
         have hM2 := hL.below hb2 hL.lt
         have hMr2 := hLr.below hb2 hLr.lt
         have hM3 := hM2.alloc (.map #[] 0)
         have hMr3 := hMr2.alloc (.map #[] 0)
         have y0 := hM3.cell 0
         have y1 := hM3.cell 1
         have y2 := hM3.cell 2
         have y3 := hM3.cell 3
         have y4 := hM3.cell 4
         have y5 := hM3.cell 5
         have y6 := hM3.cell 6
         have y7 := hM3.cell 7
         have y8 := hM3.cell 8
         simp only [List.getElem?_cons_succ, List.getElem?_cons_zero] at y0 y1 y2 y3 y4 y5 y6 y7 y8
         have hI3 : Im (w2.alloc (.map #[] 0)) w2.heap.size 0 (TM.pl []) := by rw [hpl'.out]; exact Im.made w2
         have hI3' := Lib.hid hI3
         have hsz := Lib.hid hb3.size
         have hb4 := hb3.alloc hsz.out (.map #[] 0)
         have hlt2 := hMr2.lt
         have hlt3 := hM2.lt
         clear hb2 hI3)
      | (go_at_call 36
         refine (hN.out _ _ hb4 hsz.out hI3'.out).mono ?_
         rintro e w5 ⟨vp6, vk6, rfl, hTo, -, hT5⟩
         have hMr5 := hMr3.turns hT5 (by omega)
         have hT5' := Lib.hid hT5
         have hTo' := Lib.hid hTo
         clear hT5 hTo)
      | (go_at_call 35
         refine (hQ.out _ _ _ _ _ hTo'.out (fun g hg => by simp at hg; have := hb3.size; omega)).mono ?_
         rintro e w7 ⟨vi7, rfl, hTo7, hT7⟩
         obtain ⟨P6, m6, p6, rfl⟩ : ∃ A m c, vp6 = .slice A m c := by obtain ⟨A, c, e⟩ := hTo7.tmin.p.read; exact ⟨_, _, _, e⟩
         obtain ⟨I7, l7, q7, rfl⟩ : ∃ A m c, vi7 = .slice A m c := by obtain ⟨A, c, e⟩ := hTo7.tmin.d.read; exact ⟨_, _, _, e⟩
         obtain ⟨K6, n6, r6, rfl⟩ : ∃ A m c, vk6 = .slice A m c := by obtain ⟨A, c, e⟩ := hTo7.tmin.k.read; exact ⟨_, _, _, e⟩
         have hMrX := hMr5.turns hT7 (fun h => by simp at h; omega)
         have cz0 := hMrX.cell 0
         have fz0 := hMrX.free 0
         have cz1 := hMrX.cell 1
         have fz1 := hMrX.free 1
         have cz2 := hMrX.cell 2
         have fz2 := hMrX.free 2
         have cz3 := hMrX.cell 3
         have fz3 := hMrX.free 3
         have cz4 := hMrX.cell 4
         have fz4 := hMrX.free 4
         have cz5 := hMrX.cell 5
         have fz5 := hMrX.free 5
         have cz6 := hMrX.cell 6
         have fz6 := hMrX.free 6
         have cz7 := hMrX.cell 7
         have fz7 := hMrX.free 7
         have cz8 := hMrX.cell 8
         have fz8 := hMrX.free 8
         simp only [List.getElem?_cons_succ, List.getElem?_cons_zero] at cz0 cz1 cz2 cz3 cz4 cz5 cz6 cz7 cz8
         have hltX := hMrX.lt
         have R7 := Lib.hid (And.intro hTo7 hT7)
         clear hTo7 hT7))
    obtain ⟨hTo7, hT7⟩ := R7.out
    have hs5 := hT5'.out.size
    have hTw : Turns (fun _ => False) w w7 := ((Turns.of_below hb4 (fun _ => False)).then hT5'.out (fun i hi he => by have := hb3.size; omega)).then hT7 (fun i hi he => by simp at he; have := hb3.size; omega)
    have T9 := nine_turns (Turns.refl (fun k => k = w.heap.size + 1) w7) (g := w.heap.size + 1) (fun _ => rfl) 0 (.int .i64 (TM.alpha t).k) (.int .i64 (TM.alpha t).n) (.string ⟨(TM.alpha t).s.toArray⟩) (.slice P6 m6 p6) (.int .i64 (TM.alpha t).d.k) (.int .i64 (TM.alpha t).d.n) (.string ⟨(TM.alpha t).d.s.toArray⟩) (.slice I7 l7 q7) (.slice K6 n6 r6)
    have hTz := hTw.then T9 (fun i hi he => by omega)
    have hMz := nine_res hMrX (w.heap.size + 1) rfl (.int .i64 (TM.alpha t).k) (.int .i64 (TM.alpha t).n) (.string ⟨(TM.alpha t).s.toArray⟩) (.slice P6 m6 p6) (.int .i64 (TM.alpha t).d.k) (.int .i64 (TM.alpha t).d.n) (.string ⟨(TM.alpha t).d.s.toArray⟩) (.slice I7 l7 q7) (.slice K6 n6 r6)
    have rz0 := hMz.cell 0
    have rz1 := hMz.cell 1
    have rz2 := hMz.cell 2
    have rz3 := hMz.cell 3
    have rz4 := hMz.cell 4
    have rz5 := hMz.cell 5
    have rz6 := hMz.cell 6
    have rz7 := hMz.cell 7
    have rz8 := hMz.cell 8
    unfold nine at rz0 rz1 rz2 rz3 rz4 rz5 rz6 rz7 rz8
    simp only [List.getElem?_cons_succ, List.getElem?_cons_zero, Nat.zero_add] at rz0 rz1 rz2 rz3 rz4 rz5 rz6 rz7 rz8
    have hFin := (hTo7.turns T9 (fun g _ hs he => by simp at hs; omega) (fun g _ hs he => by simp at hs hs5; omega)).tmin
    exact bodyPost_ret (v := .tuple #[.agg #[.int .i64 (TM.alpha t).k, .int .i64 (TM.alpha t).n, .string ⟨(TM.alpha t).s.toArray⟩, .slice P6 m6 p6, .int .i64 (TM.alpha t).d.k, .int .i64 (TM.alpha t).d.n, .string ⟨(TM.alpha t).d.s.toArray⟩, .slice I7 l7 q7, .slice K6 n6 r6], .nilIface]) (by simp [results, Tryz.results15, go_sem, rz0, rz1, rz2, rz3, rz4, rz5, rz6, rz7, rz8]) rfl ⟨fun _ => ⟨_, _, _, rfl, hFin⟩, fun h => by rw [hok'.out] at h; simp at h, hTz.below (Nat.le_refl _) (fun _ h => h.elim)⟩
end Go.Proofs.YthbgopmpdkefkaaGreatDoor
