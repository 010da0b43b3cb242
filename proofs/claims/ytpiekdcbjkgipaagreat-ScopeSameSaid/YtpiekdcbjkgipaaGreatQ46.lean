/- The reference of layer 10: right. -/
import Derived.Test.YtpiekdcbjkgipaaGreatQ42
import Derived.Test.YtpiekdcbjkgipaaGreatQ43
import Derived.Test.YtpiekdcbjkgipaaGreatQ44
import Derived.Test.YtpiekdcbjkgipaaGreatQ45
import Derived.Test.YtpiekdcbjkgipaaGreatQ23
import Derived.Test.YtpiekdcbjkgipaaGreatQ6
namespace Go.Proofs.YtpiekdcbjkgipaaGreat
open Go.ChangeShapes Go.WideShapes Go.ChangeAt Go.RowKit Go.Deep
open TM (Tl Tm)

theorem rg_step (k n : Int) (s : List UInt8) (ps : List Int) (d : RM.Dm) (ks : Tl) (hR : ∀ i x, ks.at_ i = some x → RgOk x) : RgOk ⟨k, n, s, ps, d, ks⟩ := by
  by_cases h1 : k = 1
  · exact rg_stepA k n s ps d ks hR (Lib.hid h1)
  by_cases h2 : k = 2 ∨ k = 4
  · exact rg_stepB k n s ps d ks hR (Lib.hid h2)
  by_cases h3 : k = 3 ∨ k = 5 ∨ k = 6
  · exact rg_stepC k n s ps d ks hR (Lib.hid h3)
  by_cases h4 : k = 7 ∨ k = 9
  · exact rg_stepD k n s ps d ks hR (Lib.hid h4)
  by_cases h5 : k = 8
  · exact rg_stepE k n s ps d ks hR (Lib.hid h5)
  exact rg_stepF k n s ps d ks hR (Lib.hid (by omega))
theorem rg_any (t : Tm) : RgOk t := Tl.all_one RgOk rg_step t
end Go.Proofs.YtpiekdcbjkgipaaGreat

/- The reference of layer 10: Right, is a term a program? -/
namespace Go.Proofs.YtpiekdcbjkgipaaGreat
open Go.ChangeShapes Go.WideShapes Go.ChangeAt Go.RowKit Go.Deep
open TM (Tl Tm)

namespace TM
/-- how often a number was met: not at all, or once -/
def cn (l : List Int) : Int → Int := fun a => if l.contains a then 1 else 0
theorem cn_snoc {l : List Int} {x : Int} (h : l.contains x = false) : setS (cn l) x 1 = cn (l ++ [x]) := by
  funext b
  unfold setS cn
  by_cases e : b = x
  · subst e; simp
  · simp [e]
theorem frs_bad {l : List Int} {j : Nat} {x : Int} (hx : l[j]? = some x) (h : x < 1 ∨ (l.take j).contains x = true) : frs [] l = false := by
  have hj := (List.getElem?_eq_some_iff.1 hx).1
  have hl : l = l.take j ++ x :: l.drop (j + 1) := by
    have h2 := (List.getElem?_eq_some_iff.1 hx).2
    rw [← h2, ← List.drop_eq_getElem_cons, List.take_append_drop]
  rw [hl, frs_app, frs, List.nil_append]
  rcases h with h | h
  · simp; intro _ h1; omega
  · simp at h ⊢; intro _ _ h2; exact absurd h h2
theorem frs_good {l : List Int} {j : Nat} {x : Int} (hx : l[j]? = some x) (h0 : frs [] (l.take j) = true) (h1 : 1 ≤ x) (h2 : (l.take j).contains x = false) : frs [] (l.take (j + 1)) = true := by
  rw [List.take_add_one, hx, frs_app, h0]
  simp [frs] at h2 ⊢
  exact ⟨h1, h2⟩
end TM
set_option maxRecDepth 100000 in
set_option maxHeartbeats 8000000 in
theorem tright_any (t : Tm) (w : World) (vp vi vk : Value) (h : TmIn w t vp vi vk) (hB : TmBd t) (hmany : (t.ps ++ TM.prs t.ks).length ≤ 1000000) :
    Calls Tryz.prog 10 #[tmv t vp vi vk] w fun e w' => e = .returned (.bool (TM.okt t)) ∧ Went w w' := by
  have hD := Lib.hid (fun (w' : World) (hb : Below w.heap.size w w') => tdepth_any t w' vp vi vk 250 (h.below hb) (by omega) (by omega))
  have hP := Lib.hid (fun (w' : World) (hb : Below w.heap.size w w') => trparts_any t w' vp vi vk (h.below hb))
  have hM := Lib.hid (fun (w' : World) (hb : Below w.heap.size w w') => params_any t w' vp vi vk (h.below hb) hmany)
  have hG := Lib.hid (fun (w' : World) (hb : Below w.heap.size w w') => rg_any t w' (.slice none 0 0) [] vp vi vk (h.below hb) (PIn.nil w') (by simpa using hmany))
  have hbp : ∀ p ∈ t.ps ++ TM.prs t.ks, b64 p := fun p hp => by
    rcases List.mem_append.1 hp with hp | hp
    · exact hB.p p hp
    · exact hB.ks.prs p hp
  obtain ⟨H, hH⟩ : ∃ H, TM.hi t.ks = H := ⟨_, rfl⟩
  obtain ⟨Z, hZ⟩ : ∃ Z, TM.sz t.ks = Z := ⟨_, rfl⟩
  unfold TM.okt
  rw [hH] at hD ⊢
  rw [hZ] at hP ⊢
  generalize t.ps ++ TM.prs t.ks = l at hM hbp hmany ⊢
  obtain ⟨L, hLl⟩ : ∃ L, l.length = L := ⟨_, rfl⟩
  have hLl' := Lib.hid hLl
  generalize TM.ok1 [] t = okb at hG ⊢
  have hbp' := Lib.hid hbp
  have hmany' := Lib.hid hmany
  unfold TkN at hD
  unfold CtN at hP
  unfold tmv at hD hP hM hG ⊢
  have hmm := @run_makeMap Tryz.prog
  have hL := Lies.made w 28 #[.int .i64 t.k, .int .i64 t.n, .string ⟨t.s.toArray⟩, vp, .int .i64 t.d.k, .int .i64 t.d.n, .string ⟨t.d.s.toArray⟩, vi, vk]
  have hb1 : Below w.heap.size w (w.alloc (.cells #[.int .i64 t.k, .int .i64 t.n, .string ⟨t.s.toArray⟩, vp, .int .i64 t.d.k, .int .i64 t.d.n, .string ⟨t.d.s.toArray⟩, vi, vk] 28)) := (Below.refl _ w).alloc (Nat.le_refl _) _
  clear hH hZ h hB hbp hmany hLl
  by_cases h2 : Z + 1 ≤ 4000
  · by_cases h1 : H + 1 ≤ 200
    · rw [decide_eq_true h1, decide_eq_true h2, Bool.true_and, Bool.true_and]
      obtain ⟨F, hF⟩ : ∃ F, (TM.frs [] l && okb) = F := ⟨_, rfl⟩
      rw [hF]
      have hF' := Lib.hid hF
      clear hF
      go_enter Tryz.func10, Tryz.ntmps10
      go_wp2_with (first
        | (go_at_call 20
           refine (hP.out _ hb1).mono ?_
           rintro e w5 ⟨y5, h50, rfl, hb5⟩
           have hy : y5 ≤ 4000 := by omega
           clear h50
           have hM2 := hL.below hb5 hL.lt
           have hb6 : Below w.heap.size w w5 := hb1.trans (Below.mono hb5 hb1.size)
           have y0 := hM2.cell 0
           have y1 := hM2.cell 1
           have y2 := hM2.cell 2
           have y3 := hM2.cell 3
           have y4 := hM2.cell 4
           have y5 := hM2.cell 5
           have y6 := hM2.cell 6
           have y7 := hM2.cell 7
           have y8 := hM2.cell 8
           simp only [List.getElem?_cons_succ, List.getElem?_cons_zero] at y0 y1 y2 y3 y4 y5 y6 y7 y8
           clear hb5)
        | (go_at_call 19
           refine (hD.out _ hb6).mono ?_
           rintro e w7 ⟨y77, h70, rfl, hb7⟩
           have hy7 : y77 ≤ 200 := by omega
           clear h70
           have hM3 := hM2.below hb7 hM2.lt
           have hb8 : Below w.heap.size w w7 := hb6.trans (Below.mono hb7 hb6.size)
           have hM4 := hM3.alloc (.map #[] 0)
           have z0 := hM4.cell 0
           have z1 := hM4.cell 1
           have z2 := hM4.cell 2
           have z3 := hM4.cell 3
           have z4 := hM4.cell 4
           have z5 := hM4.cell 5
           have z6 := hM4.cell 6
           have z7 := hM4.cell 7
           have z8 := hM4.cell 8
           simp only [List.getElem?_cons_succ, List.getElem?_cons_zero] at z0 z1 z2 z3 z4 z5 z6 z7 z8
           have hI4 : Im (w7.alloc (.map #[] 0)) w7.heap.size 0 (TM.cn []) := by
             rw [show TM.cn [] = fun _ => 0 by funext a; simp [TM.cn]]
             exact Im.made w7
           have hI4' := Lib.hid hI4
           have hb9 := hb8.alloc hb8.size (.map #[] 0)
           have hlt3 := hM3.lt
           clear hb7 hI4)
        | (go_at_call 26
           refine (hM.out _ hb9).mono ?_
           rintro e w9 ⟨v9, rfl, hO9, hb10⟩
           have hM5 := hM4.below hb10 hM4.lt
           have hb11 : Below w.heap.size w w9 := hb9.trans (Below.mono hb10 hb9.size)
           have hI5 := hI4'.out.below hb10
           obtain ⟨A9, c9, e9, -⟩ := hO9.read
           rw [hLl'.out] at e9
           subst e9
           have hqa : ∀ g, (Value.slice A9 L c9).ownBlock = some g → g ≠ w7.heap.size := fun g hg e => by have := (hO9.lt g hg).1; simp at this; omega
           have hqa' := Lib.hid hqa
           have hO9' := Lib.hid hO9
           clear hb10 hqa hO9))
      go_loopw [5] (fun i wr => ∃ (j : Nat), j ≤ L ∧ i = .int .i64 j ∧ Im wr w7.heap.size j (TM.cn (l.take j)) ∧ Hid (TM.frs [] (l.take j) = true) ∧ Own wr 0 (.slice A9 L c9) l ∧ Lies wr w.heap.size 28 [.int .i64 t.k, .int .i64 t.n, .string ⟨t.s.toArray⟩, vp, .int .i64 t.d.k, .int .i64 t.d.n, .string ⟨t.d.s.toArray⟩, vi, vk] ∧ Below w.heap.size w wr) (fun i _ => L - (intOf i).toNat)
      case atStart => exact ⟨0, by omega, rfl, hI5, Lib.hid rfl, hO9'.out.base (Nat.zero_le _), hM5, hb11⟩
      case round =>
        obtain ⟨j, hj, rfl, hI, hfr, hO, hM1, hb⟩ := hrel
        have hwq : w.heap.size < w7.heap.size := hlt3
        have hwq2 := Lib.hid hb8.size
        clear hI5 hM5 hb11 hM4 hb9 hM3 z0 z1 z2 z3 z4 z5 z6 z7 z8 hL hb1 hM2
        by_cases hlt : j < L
        · have hx : l[j]? = some (l[j]'(by rw [hLl'.out]; exact hlt)) := List.getElem?_eq_getElem _
          obtain ⟨x, hxe⟩ : ∃ x, l[j]'(by rw [hLl'.out]; exact hlt) = x := ⟨_, rfl⟩
          rw [hxe] at hx
          have x64 := hbp'.out x (List.mem_of_getElem? hx)
          have hgd : l.getD j 0 = x := by rw [List.getD_eq_getElem?_getD, hx]; rfl
          obtain ⟨g, hAg, -, hglt, p0⟩ := hO.cell (j := j) (by rw [hLl'.out]; exact hlt)
          rw [hgd] at p0
          have hgq : g ≠ w7.heap.size := hqa'.out g (by rw [hAg]; rfl)
          subst hAg
          have hlk := hI.look (t := 56) Tryz.underlying56 x64
          have hmn := hmany'.out
          rw [hLl'.out] at hmn
          cases hct : (l.take j).contains x
          · have hcx : TM.cn (l.take j) x = 0 := by unfold TM.cn; rw [hct]; rfl
            rw [hcx] at hlk
            obtain ⟨w2, hrun, hI3, hT3⟩ := hI.put (t := 56) Tryz.underlying56 (by omega) x64 (k := 1) ⟨by omega, by omega⟩ (by omega)
            rw [hcx, if_pos rfl, TM.cn_snoc hct] at hI3
            have htk : l.take j ++ [x] = l.take (j + 1) := by rw [List.take_add_one, hx]; rfl
            rw [htk] at hI3
            have hlk2 := hI3.look (t := 56) Tryz.underlying56 x64
            have hcx2 : TM.cn (l.take (j + 1)) x = 1 := by rw [← htk]; unfold TM.cn; simp
            rw [hcx2] at hlk2
            have hO3 := hO.turns hT3 (fun g' hg' e => hqa'.out g' hg' e)
            have p2 : w2.cell? ⟨g, j, none⟩ = some (.int .i64 x) := by
              obtain ⟨g', hAg', -, -, p'⟩ := hO3.cell (j := j) (by rw [hLl'.out]; exact hlt)
              rw [hgd] at p'
              simp only [Option.some.injEq, Addr.mk.injEq, and_true] at hAg'
              rw [hAg']; exact p'
            have hM2 := hM1.turns hT3 (by omega)
            have hb2 : Below w.heap.size w w2 := hb.trans (hT3.below hb.size (fun i hi => by have := hwq2.out; omega))
            by_cases h1 : 1 ≤ x
            · have hfr3 := Lib.hid (TM.frs_good hx hfr.out h1 hct)
              have hI3' := Lib.hid hI3
              have hO3' := Lib.hid hO3
              clear hx hxe hgd hI hI3 hO hO3 hT3 hcx hcx2 htk hct hfr hglt
              go_wp2_with fail
              go_roundw
              case rel => exact ⟨j + 1, by omega, by go_num, hI3'.out, hfr3, hO3'.out, hM2, hb2⟩
              case measure => simp [intOf]; omega
            · have hbad := TM.frs_bad hx (.inl (by omega))
              have hFf := hF'.out
              rw [hbad, Bool.false_and] at hFf
              subst hFf
              clear hx hxe hgd hI hI3 hO hO3 hT3 hcx hcx2 htk hct hfr hglt hbad
              go_wp2_with fail
              go_ret
              exact ⟨rfl, hb2⟩
          · have hcx : TM.cn (l.take j) x = 1 := by unfold TM.cn; rw [hct]; rfl
            rw [hcx] at hlk
            obtain ⟨w2, hrun, hI3, hT3⟩ := hI.put (t := 56) Tryz.underlying56 (by omega) x64 (k := 2) ⟨by omega, by omega⟩ (by omega)
            have hlk2 := hI3.look (t := 56) Tryz.underlying56 x64
            have hcx2 : setS (TM.cn (l.take j)) x 2 x = 2 := by simp [setS]
            rw [hcx2] at hlk2
            have hO3 := hO.turns hT3 (fun g' hg' e => hqa'.out g' hg' e)
            have p2 : w2.cell? ⟨g, j, none⟩ = some (.int .i64 x) := by
              obtain ⟨g', hAg', -, -, p'⟩ := hO3.cell (j := j) (by rw [hLl'.out]; exact hlt)
              rw [hgd] at p'
              simp only [Option.some.injEq, Addr.mk.injEq, and_true] at hAg'
              rw [hAg']; exact p'
            have hb2 : Below w.heap.size w w2 := hb.trans (hT3.below hb.size (fun i hi => by have := hwq2.out; omega))
            have hbad := TM.frs_bad hx (.inr hct)
            have hFf := hF'.out
            rw [hbad, Bool.false_and] at hFf
            subst hFf
            by_cases h1 : 1 ≤ x
            all_goals
              clear hx hxe hgd hI hI3 hO hO3 hT3 hcx hcx2 hct hfr hglt hbad
              go_wp2_with fail
              go_ret
              exact ⟨rfl, hb2⟩
        · obtain rfl : j = L := by omega
          have hgood := hfr.out
          rw [show l.take j = l by rw [← hLl'.out]; exact List.take_length] at hgood
          have hFf := hF'.out
          rw [hgood, Bool.true_and] at hFf
          subst hFf
          have y0 := hM1.cell 0
          have y1 := hM1.cell 1
          have y2 := hM1.cell 2
          have y3 := hM1.cell 3
          have y4 := hM1.cell 4
          have y5 := hM1.cell 5
          have y6 := hM1.cell 6
          have y7 := hM1.cell 7
          have y8 := hM1.cell 8
          simp only [List.getElem?_cons_succ, List.getElem?_cons_zero] at y0 y1 y2 y3 y4 y5 y6 y7 y8
          clear hI hfr hO hgood
          go_wp2_with (
            go_at_call 27
            refine (hG.out _ hb).mono ?_
            rintro e w13 ⟨rfl, hb13⟩)
          go_ret
          exact ⟨rfl, hb.trans (Below.mono hb13 hb.size)⟩
    · rw [decide_eq_true h2, decide_eq_false h1, Bool.true_and, Bool.false_and, Bool.false_and]
      go_enter Tryz.func10, Tryz.ntmps10
      go_wp2_with (first
        | (go_at_call 20
           refine (hP.out _ hb1).mono ?_
           rintro e w5 ⟨y5, h50, rfl, hb5⟩
           have hy : y5 ≤ 4000 := by omega
           clear h50
           have hM2 := hL.below hb5 hL.lt
           have hb6 : Below w.heap.size w w5 := hb1.trans (Below.mono hb5 hb1.size)
           have y0 := hM2.cell 0
           have y1 := hM2.cell 1
           have y2 := hM2.cell 2
           have y3 := hM2.cell 3
           have y4 := hM2.cell 4
           have y5 := hM2.cell 5
           have y6 := hM2.cell 6
           have y7 := hM2.cell 7
           have y8 := hM2.cell 8
           simp only [List.getElem?_cons_succ, List.getElem?_cons_zero] at y0 y1 y2 y3 y4 y5 y6 y7 y8
           clear hb5)
        | (go_at_call 19
           refine (hD.out _ hb6).mono ?_
           rintro e w7 ⟨y77, h70, rfl, hb7⟩
           have hy7 : 200 < y77 := by omega
           clear h70
           have hb8 : Below w.heap.size w w7 := hb6.trans (Below.mono hb7 hb6.size)))
      go_ret
      exact ⟨rfl, hb8⟩
  · rw [decide_eq_false h2, Bool.false_and, Bool.false_and, Bool.false_and]
    go_enter Tryz.func10, Tryz.ntmps10
    go_wp2_with (
      go_at_call 20
      refine (hP.out _ hb1).mono ?_
      rintro e w5 ⟨y5, h50, rfl, hb5⟩
      have hy : 4000 < y5 := by omega
      clear h50
      have hb6 : Below w.heap.size w w5 := hb1.trans (Below.mono hb5 hb1.size))
    go_ret
    exact ⟨rfl, hb6⟩
end Go.Proofs.YtpiekdcbjkgipaaGreat
