/- The laws' own world: what is reached. -/
import Derived.Test.YtclcnepkgjcmcaaDoorQ29
namespace Go.Proofs.YtclcnepkgjcmcaaDoor
open Go.RowKit

set_option maxHeartbeats 2000000 in
set_option maxRecDepth 100000 in
theorem reached_any (blk : Nat → Nat) (fv : Nat → Value) (M : Md) (N B q x : Nat) (al : Value) (bad full : Bool) (w : World) (hN : N ≤ 100000)
    (hx : Lies w x 43 (wcells q blk M.reg al bad full)) (T : Thw w B blk fv M N) (ha : OwnP w B al ((List.range N).map blk)) :
    Calls Tryd.prog 8 #[.pointer (some ⟨x, 0, none⟩)] w fun e w' => ∃ (g : Nat) (is : List Nat), e = .returned (.map (some g)) ∧ PMap w' g (is.map blk) ∧ w.heap.size ≤ g ∧ (∀ i, i ∈ is ↔ Reach M i) ∧ (∀ i ∈ is, i < N) ∧ is.Nodup ∧ Turns (fun _ => False) w w' := by
  obtain ⟨y, hy⟩ : ∃ y : Nat → Int, ∀ r, vw (M.reg r) = .int .u64 (y r) := ⟨fun r => match M.reg r with | .w x => x | .t _ => 0, fun r => by show vw (M.reg r) = .int .u64 (match M.reg r with | .w x => x | .t _ => 0); cases M.reg r <;> rfl⟩
  obtain ⟨P, hP⟩ : ∃ P : Nat → Option Addr, ∀ r, vp blk (M.reg r) = .pointer (P r) := ⟨fun r => match M.reg r with | .w _ => none | .t i => some ⟨blk i, 0, none⟩, fun r => by show vp blk (M.reg r) = .pointer (match M.reg r with | .w _ => none | .t i => some ⟨blk i, 0, none⟩); cases M.reg r <;> rfl⟩
  have VG : Hid (∀ r, vg blk (M.reg r) = .agg #[.int .u64 (y r), .pointer (P r)]) := fun r => by rw [vg_eq, hy, hP]
  -- the world's cells once the three blocks are made
  have tq : Turns (fun _ => False) w (((w.alloc (.map #[] 0)).alloc (.cells #[.map (some w.heap.size)] 33)).alloc (.cells #[.slice none 0 0] 41)) := (((Turns.refl (fun _ => False) w).alloc _).alloc _).alloc _
  have hx1 := hx.turns tq (fun h => h)
  have hc : ∀ r, r < 8 → (wcells q blk M.reg al bad full)[1 + r * 2]? = some (.int .u64 (y r)) ∧ (wcells q blk M.reg al bad full)[1 + r * 2 + 1]? = some (.pointer (P r)) := fun r hr => by
    rw [← hy, ← hP]
    rcases (show r = 0 ∨ r = 1 ∨ r = 2 ∨ r = 3 ∨ r = 4 ∨ r = 5 ∨ r = 6 ∨ r = 7 by omega) with rfl | rfl | rfl | rfl | rfl | rfl | rfl | rfl <;> exact ⟨rfl, rfl⟩
  have k1 := (hx1.cell 1).trans (hc 0 (by omega)).1
  have k2 := (hx1.cell 2).trans (hc 0 (by omega)).2
  have k3 := (hx1.cell 3).trans (hc 1 (by omega)).1
  have k4 := (hx1.cell 4).trans (hc 1 (by omega)).2
  have k5 := (hx1.cell 5).trans (hc 2 (by omega)).1
  have k6 := (hx1.cell 6).trans (hc 2 (by omega)).2
  have k7 := (hx1.cell 7).trans (hc 3 (by omega)).1
  have k8 := (hx1.cell 8).trans (hc 3 (by omega)).2
  have k9 := (hx1.cell 9).trans (hc 4 (by omega)).1
  have k10 := (hx1.cell 10).trans (hc 4 (by omega)).2
  have k11 := (hx1.cell 11).trans (hc 5 (by omega)).1
  have k12 := (hx1.cell 12).trans (hc 5 (by omega)).2
  have k13 := (hx1.cell 13).trans (hc 6 (by omega)).1
  have k14 := (hx1.cell 14).trans (hc 6 (by omega)).2
  have k15 := (hx1.cell 15).trans (hc 7 (by omega)).1
  have k16 := (hx1.cell 16).trans (hc 7 (by omega)).2
  have hxl := hx.lt
  have n1 : x ≠ w.heap.size := by omega
  have n2 : x ≠ w.heap.size + 1 := by omega
  have n3 : x ≠ w.heap.size + 2 := by omega
  have HH := Lib.hid (And.intro hx (And.intro T (And.intro ha (And.intro tq (And.intro hy (And.intro hP hc))))))
  clear hx T ha tq hx1 hc hy hP
  have x0 : ∀ w : World, (Instr.index 40 (.agg #[.int .u64 (y 0), .pointer (P 0), .int .u64 (y 1), .pointer (P 1), .int .u64 (y 2), .pointer (P 2), .int .u64 (y 3), .pointer (P 3), .int .u64 (y 4), .pointer (P 4), .int .u64 (y 5), .pointer (P 5), .int .u64 (y 6), .pointer (P 6), .int .u64 (y 7), .pointer (P 7)]) (.int .i64 0)).run Tryd.prog w = .ok (.agg #[.int .u64 (y 0), .pointer (P 0)]) w := fun _ => by kernel_rfl
  have x1 : ∀ w : World, (Instr.index 40 (.agg #[.int .u64 (y 0), .pointer (P 0), .int .u64 (y 1), .pointer (P 1), .int .u64 (y 2), .pointer (P 2), .int .u64 (y 3), .pointer (P 3), .int .u64 (y 4), .pointer (P 4), .int .u64 (y 5), .pointer (P 5), .int .u64 (y 6), .pointer (P 6), .int .u64 (y 7), .pointer (P 7)]) (.int .i64 1)).run Tryd.prog w = .ok (.agg #[.int .u64 (y 1), .pointer (P 1)]) w := fun _ => by kernel_rfl
  have x2 : ∀ w : World, (Instr.index 40 (.agg #[.int .u64 (y 0), .pointer (P 0), .int .u64 (y 1), .pointer (P 1), .int .u64 (y 2), .pointer (P 2), .int .u64 (y 3), .pointer (P 3), .int .u64 (y 4), .pointer (P 4), .int .u64 (y 5), .pointer (P 5), .int .u64 (y 6), .pointer (P 6), .int .u64 (y 7), .pointer (P 7)]) (.int .i64 2)).run Tryd.prog w = .ok (.agg #[.int .u64 (y 2), .pointer (P 2)]) w := fun _ => by kernel_rfl
  have x3 : ∀ w : World, (Instr.index 40 (.agg #[.int .u64 (y 0), .pointer (P 0), .int .u64 (y 1), .pointer (P 1), .int .u64 (y 2), .pointer (P 2), .int .u64 (y 3), .pointer (P 3), .int .u64 (y 4), .pointer (P 4), .int .u64 (y 5), .pointer (P 5), .int .u64 (y 6), .pointer (P 6), .int .u64 (y 7), .pointer (P 7)]) (.int .i64 3)).run Tryd.prog w = .ok (.agg #[.int .u64 (y 3), .pointer (P 3)]) w := fun _ => by kernel_rfl
  have x4 : ∀ w : World, (Instr.index 40 (.agg #[.int .u64 (y 0), .pointer (P 0), .int .u64 (y 1), .pointer (P 1), .int .u64 (y 2), .pointer (P 2), .int .u64 (y 3), .pointer (P 3), .int .u64 (y 4), .pointer (P 4), .int .u64 (y 5), .pointer (P 5), .int .u64 (y 6), .pointer (P 6), .int .u64 (y 7), .pointer (P 7)]) (.int .i64 4)).run Tryd.prog w = .ok (.agg #[.int .u64 (y 4), .pointer (P 4)]) w := fun _ => by kernel_rfl
  have x5 : ∀ w : World, (Instr.index 40 (.agg #[.int .u64 (y 0), .pointer (P 0), .int .u64 (y 1), .pointer (P 1), .int .u64 (y 2), .pointer (P 2), .int .u64 (y 3), .pointer (P 3), .int .u64 (y 4), .pointer (P 4), .int .u64 (y 5), .pointer (P 5), .int .u64 (y 6), .pointer (P 6), .int .u64 (y 7), .pointer (P 7)]) (.int .i64 5)).run Tryd.prog w = .ok (.agg #[.int .u64 (y 5), .pointer (P 5)]) w := fun _ => by kernel_rfl
  have x6 : ∀ w : World, (Instr.index 40 (.agg #[.int .u64 (y 0), .pointer (P 0), .int .u64 (y 1), .pointer (P 1), .int .u64 (y 2), .pointer (P 2), .int .u64 (y 3), .pointer (P 3), .int .u64 (y 4), .pointer (P 4), .int .u64 (y 5), .pointer (P 5), .int .u64 (y 6), .pointer (P 6), .int .u64 (y 7), .pointer (P 7)]) (.int .i64 6)).run Tryd.prog w = .ok (.agg #[.int .u64 (y 6), .pointer (P 6)]) w := fun _ => by kernel_rfl
  have x7 : ∀ w : World, (Instr.index 40 (.agg #[.int .u64 (y 0), .pointer (P 0), .int .u64 (y 1), .pointer (P 1), .int .u64 (y 2), .pointer (P 2), .int .u64 (y 3), .pointer (P 3), .int .u64 (y 4), .pointer (P 4), .int .u64 (y 5), .pointer (P 5), .int .u64 (y 6), .pointer (P 6), .int .u64 (y 7), .pointer (P 7)]) (.int .i64 7)).run Tryd.prog w = .ok (.agg #[.int .u64 (y 7), .pointer (P 7)]) w := fun _ => by kernel_rfl
  have hmm := @run_makeMap Tryd.prog
  go_enter Tryd.func8, Tryd.ntmps8
  go_wp2_with fail
  obtain ⟨hx, T, ha, tq, hy, hP, hc⟩ := HH.out
  clear hy hP hc k1 k2 k3 k4 k5 k6 k7 k8 k9 k10 k11 k12 k13 k14 k15 k16
  go_loopw [19] (fun v wr => ∃ (c : Nat) (is td : List Nat) (tv : Value), c ≤ 8 ∧ v = .int .i64 c ∧ Rs w wr w.heap.size (w.heap.size + 1) (w.heap.size + 2) blk M N is td tv ∧ Eqs is td ∧ Rgx M is c) (fun v _ => 8 - (intOf v).toNat)
  case atStart =>
    have m3 := (Lies.made (w.alloc (.map #[] 0)) 33 #[.map (some w.heap.size)]).alloc (.cells #[.slice none 0 0] 41)
    have m4 := Lies.made ((w.alloc (.map #[] 0)).alloc (.cells #[.map (some w.heap.size)] 33)) 41 #[.slice none 0 0]
    simp only [World.size_alloc] at m3 m4
    exact ⟨0, [], [], _, by omega, rfl, ⟨(PMap.made w).turns (((Turns.refl (fun _ => False) _).alloc _).alloc _) (fun h => h), m3, m4, OwnP.none_ _ _, Fnd.none_ M N, tq, by omega, by omega, by omega⟩, fun i hi => (by cases hi), fun r hr => absurd hr (by omega)⟩
  case round =>
    obtain ⟨c, is, td, tv, hc, rfl, h, he, hr⟩ := hrel
    by_cases hc8 : c < 8
    · have PUT := Lib.hid (fun w1 (h1 : Rs w w1 w.heap.size (w.heap.size + 1) (w.heap.size + 2) blk M N is td tv) => VG.out c ▸ h1.put T hN (M.reg c) (T.regs c hc8) ((Reach.closed M).reg c hc8))
      have ER := Lib.hid (And.intro (he.put (M.reg c)) hr.put)
      have HQ := Lib.hid h
      clear h he hr tq hx T ha HH
      rcases (show c = 0 ∨ c = 1 ∨ c = 2 ∨ c = 3 ∨ c = 4 ∨ c = 5 ∨ c = 6 ∨ c = 7 by omega) with rfl | rfl | rfl | rfl | rfl | rfl | rfl | rfl
      all_goals
        go_wp2_with (first
          | (go_at_call 27
             refine (PUT.out _ (HQ.out.quiet ((Turns.refl (fun _ => False) _).alloc _))).mono ?_
             rintro e w2 ⟨rfl, tv2, h2⟩))
        go_roundw
        case rel => exact ⟨_, _, _, tv2, by omega, by go_num, h2, ER.out.1, ER.out.2⟩
        case measure => simp [intOf]
    · obtain rfl : c = 8 := by omega
      have hp := he.pln (M := M)
      have HX := Lib.hid (And.intro hx (And.intro T ha))
      clear he HH tq hx T ha hc8 x0 x1 x2 x3 x4 x5 x6 x7
      go_wp2_with fail
      go_loopw [] (fun wr => ∃ (is td : List Nat) (tv : Value), Rs w wr w.heap.size (w.heap.size + 1) (w.heap.size + 2) blk M N is td tv ∧ Pln M is td ∧ Rgs M is) (fun wr => 2 * (N - keysOf wr w.heap.size) + lenOf wr (w.heap.size + 2))
      case atStart => exact ⟨_, _, _, h, hp, hr⟩
      case round =>
        clear h hp hr
        obtain ⟨is, td, tv, h, hp, hr⟩ := hrel
        have hmu : Hid (2 * (N - keysOf wr w.heap.size) + lenOf wr (w.heap.size + 2) = 2 * (N - is.length) + td.length) := by
          unfold Hid
          rw [h.keys, h.lens]
        go_wp2_with fail
        go_loopw [] (fun wr => ∃ (is' td' : List Nat) (tv : Value), Rs w wr w.heap.size (w.heap.size + 1) (w.heap.size + 2) blk M N is' td' tv ∧ Pln M is' td' ∧ Rgs M is' ∧ 2 * (N - is'.length) + td'.length ≤ 2 * (N - is.length) + td.length) (fun wr => 2 * (N - keysOf wr w.heap.size) + lenOf wr (w.heap.size + 2))
        case atStart => exact ⟨_, _, _, h, hp, hr, Nat.le_refl _⟩
        case round =>
          clear h hp hr
          generalize 2 * (N - is.length) + td.length = m0 at *
          rename_i wo _
          obtain ⟨is1, td1, tv1, h, hp, hr, hm⟩ := hrel
          rcases List.eq_nil_or_concat td1 with rfl | ⟨td2, t, rfl⟩
          · obtain ⟨A, c, rfl⟩ := h.empty
            have c4 : wr.cell? ⟨w.heap.size + 1 + 1, 0, none⟩ = some (.slice A 0 c) := h.b4.cell 0
            have c17 : wr.cell? ⟨x, 17, none⟩ = some al := (HX.out.1.turns h.tr (fun h => h)).cell 17
            obtain ⟨Aa, ca, hal, har⟩ := HX.out.2.2.read
            have HO := Lib.hid (hal ▸ HX.out.2.2 : OwnP w B (.slice Aa ((List.range N).map blk).length ca) ((List.range N).map blk))
            rw [hal] at c17
            rw [List.length_map, List.length_range] at c17
            have HR := Lib.hid (And.intro h (And.intro hp (And.intro hr har)))
            clear h hp hr har hal
            go_wp2_with fail
            go_loopw [63] (fun v wr2 => ∃ (k : Nat) (is2 td2 : List Nat) (tv2 : Value), k ≤ N ∧ v = .int .i64 k ∧ Rs w wr2 w.heap.size (w.heap.size + 1) (w.heap.size + 2) blk M N is2 td2 tv2 ∧ Pln M is2 td2 ∧ Rgs M is2 ∧ (td2 = [] → Wks M is2 k) ∧ 2 * (N - is2.length) + 2 * td2.length ≤ m0) (fun v _ => N - (intOf v).toNat)
            case atStart => exact ⟨0, is1, [], _, by omega, rfl, HR.out.1, HR.out.2.1, HR.out.2.2.1, fun _ => Wks.zero M is1, by simpa using hm⟩
            case round =>
              clear HR hm
              obtain ⟨k, is2, td2, tv2, hk, rfl, h, hp, hr, hw, hm⟩ := hrel
              by_cases hkN : k < N
              · obtain ⟨ga, rfl, hga, e1⟩ := (HO.out.turns h.tr (fun _ _ h => h)).at_ hkN
                have hd := h.quiet (Turns.refl (fun _ => False) wr).drew
                have hb := ((HX.out.2.1.here k hkN).turns hd.tr (fun h => h))
                have d0 : wr.drew.cell? ⟨blk k, 0, none⟩ = some (.int .i64 (M.form k)) := hb.cell 0
                by_cases hk3 : M.form k = 3
                · have hfb : (M.form k == 3) = true := by simpa using hk3
                  have c3 : wr.drew.cell? ⟨w.heap.size + 1, 0, none⟩ = some (.map (some w.heap.size)) := hd.b3.cell 0
                  have lk := hd.look HX.out.2.1 hkN
                  by_cases hki : k ∈ is2
                  · rw [decide_eq_true hki] at lk
                    have hl2 := HX.out.2.1.len3 k hkN hk3
                    obtain ⟨Af, cf, hfv, hfr⟩ := ((HX.out.2.1.rows k hkN).turns hd.tr (fun _ _ h => h)).read
                    rw [hl2] at hfv hfr
                    obtain ⟨gf, rfl, hgf, -, e3a⟩ := hfr 0 (by omega)
                    obtain ⟨gf', e4, -, e5a, e6a⟩ := hfr 1 (by omega)
                    injection e4 with e4
                    injection e4 with e4 _ _
                    subst e4
                    have d1 : wr.drew.cell? ⟨blk k, 1, none⟩ = some (.slice (some ⟨gf, 0, none⟩) 2 cf) := by rw [← hfv]; exact hb.cell 1
                    have e3b : wr.drew.cell? ⟨gf, 1, none⟩ = some (vp blk (M.fld k 0)) := e3a
                    have e5 : wr.drew.cell? ⟨gf, 2, none⟩ = some (vw (M.fld k 1)) := e5a
                    have e6 : wr.drew.cell? ⟨gf, 3, none⟩ = some (vp blk (M.fld k 1)) := e6a
                    obtain ⟨Y, hY⟩ : ∃ Y, vw (M.fld k 1) = .int .u64 Y := by cases M.fld k 1 <;> exact ⟨_, rfl⟩
                    obtain ⟨Q, hQ⟩ : ∃ Q, vp blk (M.fld k 1) = .pointer Q := by cases M.fld k 1 <;> exact ⟨_, rfl⟩
                    rw [hY] at e5
                    rw [hQ] at e6
                    have VE : vg blk (M.fld k 1) = .agg #[.int .u64 Y, .pointer Q] := by rw [vg_eq, hY, hQ]
                    clear hfr hfv hY hQ e3a e5a e6a
                    have hN0 := HX.out.2.1.named k hkN 0 (by omega)
                    cases hf0 : M.fld k 0 with
                    | w z =>
                      rw [hf0] at e3b
                      have e3 : wr.drew.cell? ⟨gf, 1, none⟩ = some (.pointer none) := e3b
                      clear e3b
                      have hR1 := (Reach.closed M).weak k (h.fnd.real k hki) hk3 (by rw [hf0]; trivial)
                      have hN1 := HX.out.2.1.named k hkN 1 (by omega)
                      have PUT := Lib.hid (fun w1 (h1 : Rs w w1 w.heap.size (w.heap.size + 1) (w.heap.size + 2) blk M N is2 td2 tv2) => VE ▸ h1.put HX.out.2.1 hN (M.fld k 1) hN1 hR1)
                      have HE := Lib.hid (And.intro hd (And.intro (hp.put (M.fld k 1)) (And.intro (hr.put (M.fld k 1)) (And.intro (Wks.put hw) hm))))
                      clear h hd hp hr hw hm hb hk3 hR1 hN1 VE hf0 hN0 hki hl2
                      generalize M.form k = ft at *
                      generalize blk k = bk at *
                      go_wp2_with fail
                      go_region
                      all_goals
                        go_wp2_with (first
                          | (go_at_call 27
                             refine (PUT.out _ HE.out.1).mono ?_
                             rintro e w2 ⟨rfl, tv2, h2⟩))
                        go_roundw
                        case rel => first
                          | exact ⟨k + 1, _, _, tv2, by omega, by go_num, h2, HE.out.2.1, HE.out.2.2.1, HE.out.2.2.2.1, put_less2 h2 HE.out.2.2.2.2⟩
                          | ((repeat apply Exists.intro); exact ⟨⟨k + 1, _, _, tv2, by omega, by go_num, h2, HE.out.2.1, HE.out.2.2.1, HE.out.2.2.2.1, put_less2 h2 HE.out.2.2.2.2⟩, rfl⟩)
                        case measure => simp [intOf]; omega
                    | t i =>
                      rw [hf0] at e3b hN0
                      have hiN : i < N := hN0
                      have e3 : wr.drew.cell? ⟨gf, 1, none⟩ = some (.pointer (some ⟨blk i, 0, none⟩)) := e3b
                      clear e3b
                      have lk2 := hd.look HX.out.2.1 hiN
                      by_cases hii : i ∈ is2
                      · rw [decide_eq_true hii] at lk2
                        have hR1 := (Reach.closed M).weak k (h.fnd.real k hki) hk3 (by rw [hf0]; exact h.fnd.real i hii)
                        have hN1 := HX.out.2.1.named k hkN 1 (by omega)
                        have PUT := Lib.hid (fun w1 (h1 : Rs w w1 w.heap.size (w.heap.size + 1) (w.heap.size + 2) blk M N is2 td2 tv2) => VE ▸ h1.put HX.out.2.1 hN (M.fld k 1) hN1 hR1)
                        have HE := Lib.hid (And.intro hd (And.intro (hp.put (M.fld k 1)) (And.intro (hr.put (M.fld k 1)) (And.intro (Wks.put hw) hm))))
                        clear h hd hp hr hw hm hb hk3 hR1 hN1 VE hf0 hN0 hki hl2 hii
                        generalize M.form k = ft at *
                        generalize blk k = bk at *
                        go_wp2_with fail
                        go_region
                        all_goals
                          go_wp2_with (first
                            | (go_at_call 27
                               refine (PUT.out _ HE.out.1).mono ?_
                               rintro e w2 ⟨rfl, tv2, h2⟩))
                          go_roundw
                          case rel => first
                            | exact ⟨k + 1, _, _, tv2, by omega, by go_num, h2, HE.out.2.1, HE.out.2.2.1, HE.out.2.2.2.1, put_less2 h2 HE.out.2.2.2.2⟩
                            | ((repeat apply Exists.intro); exact ⟨⟨k + 1, _, _, tv2, by omega, by go_num, h2, HE.out.2.1, HE.out.2.2.1, HE.out.2.2.2.1, put_less2 h2 HE.out.2.2.2.2⟩, rfl⟩)
                          case measure => simp [intOf]; omega
                      · rw [decide_eq_false hii] at lk2
                        have HE := Lib.hid (And.intro hd (And.intro hp (And.intro hr (And.intro (fun e => (hw e).skip (fun _ _ h0 => by rw [hf0] at h0; exact hii h0)) hm))))
                        clear h hd hp hr hw hm hb hk3 hf0 hN0 hki hl2 hii VE e5 e6
                        generalize M.form k = ft at *
                        generalize blk k = bk at *
                        go_wp2_with fail
                        go_region
                        all_goals
                          go_wp2_with fail
                          go_roundw
                          case rel => first
                            | exact ⟨k + 1, is2, td2, tv2, by omega, by go_num, HE.out.1, HE.out.2.1, HE.out.2.2.1, HE.out.2.2.2.1, HE.out.2.2.2.2⟩
                            | ((repeat apply Exists.intro); exact ⟨⟨k + 1, is2, td2, tv2, by omega, by go_num, HE.out.1, HE.out.2.1, HE.out.2.2.1, HE.out.2.2.2.1, HE.out.2.2.2.2⟩, rfl⟩)
                          case measure => simp [intOf]; omega
                  · rw [decide_eq_false hki] at lk
                    have HE := Lib.hid (And.intro hd (And.intro hp (And.intro hr (And.intro (fun e => (hw e).skip (fun e => absurd e hki)) hm))))
                    clear h hd hp hr hw hm hb hk3 hki
                    generalize M.form k = ft at *
                    generalize blk k = bk at *
                    go_wp2_with fail
                    go_region
                    all_goals
                      go_wp2_with fail
                      go_roundw
                      case rel => first
                        | exact ⟨k + 1, is2, td2, tv2, by omega, by go_num, HE.out.1, HE.out.2.1, HE.out.2.2.1, HE.out.2.2.2.1, HE.out.2.2.2.2⟩
                        | ((repeat apply Exists.intro); exact ⟨⟨k + 1, is2, td2, tv2, by omega, by go_num, HE.out.1, HE.out.2.1, HE.out.2.2.1, HE.out.2.2.2.1, HE.out.2.2.2.2⟩, rfl⟩)
                      case measure => simp [intOf]; omega
                · have hfb : (M.form k == 3) = false := by simpa using hk3
                  have HE := Lib.hid (And.intro hd (And.intro hp (And.intro hr (And.intro (fun e => (hw e).skip (fun _ e3 => absurd e3 hk3)) hm))))
                  clear h hd hp hr hw hm hb hk3
                  generalize M.form k = ft at *
                  generalize blk k = bk at *
                  go_wp2_with fail
                  go_region
                  all_goals
                    go_wp2_with fail
                    go_roundw
                    case rel => first
                      | exact ⟨k + 1, is2, td2, tv2, by omega, by go_num, HE.out.1, HE.out.2.1, HE.out.2.2.1, HE.out.2.2.2.1, HE.out.2.2.2.2⟩
                      | ((repeat apply Exists.intro); exact ⟨⟨k + 1, is2, td2, tv2, by omega, by go_num, HE.out.1, HE.out.2.1, HE.out.2.2.1, HE.out.2.2.2.1, HE.out.2.2.2.2⟩, rfl⟩)
                    case measure => simp [intOf]; omega
              · obtain rfl : k = N := by omega
                have c3 : wr.cell? ⟨w.heap.size + 1, 0, none⟩ = some (.map (some w.heap.size)) := h.b3.cell 0
                cases td2 with
                | nil =>
                  obtain ⟨A2, c2, rfl⟩ := h.empty
                  have c4 : wr.cell? ⟨w.heap.size + 1 + 1, 0, none⟩ = some (.slice A2 0 c2) := h.b4.cell 0
                  have HE := Lib.hid (And.intro h (found_all h.fnd hp hr (hw rfl)))
                  clear h hp hr hw hm
                  go_wp2_with fail
                  go_ret
                  exact ⟨w.heap.size, is2, rfl, HE.out.1.map, Nat.le_refl _, HE.out.2, HE.out.1.fnd.low, HE.out.1.fnd.nodup, HE.out.1.tr⟩
                | cons t td3 =>
                  obtain ⟨A2, c2, e2, -⟩ := h.own.read
                  rw [List.length_map] at e2
                  subst e2
                  have c4 : wr.cell? ⟨w.heap.size + 1 + 1, 0, none⟩ = some (.slice A2 (td3.length + 1) c2) := h.b4.cell 0
                  have HE := Lib.hid (And.intro h (And.intro hp (And.intro hr hm)))
                  clear h hp hr hw hm
                  go_wp2_with fail
                  go_roundw
                  case rel => exact ⟨is2, _, _, HE.out.1, HE.out.2.1, HE.out.2.2.1⟩
                  case measure =>
                    have := HE.out.2.2.2
                    rw [HE.out.1.keys, HE.out.1.lens, hmu.out]
                    simp at this ⊢
                    omega
          · rw [List.concat_eq_append] at h hp hm
            obtain ⟨gt, ct, rfl, c5, c6⟩ := h.last
            have c4 : wr.cell? ⟨w.heap.size + 1 + 1, 0, none⟩ = some (.slice (some ⟨gt, 0, none⟩) (td2.length + 1) ct) := h.b4.cell 0
            have f4 : wr.frozen? ⟨w.heap.size + 1 + 1, 0, none⟩ = false := h.b4.free 0
            have hL : td2.length + 1 ≤ 100000 := by
              have := h.fnd.short
              have := h.fnd.le
              simp at *
              omega
            have hti : t ∈ is1 := h.fnd.sub t (by simp)
            have htN := h.fnd.low t hti
            have hb := (HX.out.2.1.here t htN).turns h.tr (fun h => h)
            have hsub : wrap64 (((td2.length + 1 : Nat) : Int) - 1) = (td2.length : Int) := by unfold wrap64; omega
            have d0 : wr.cell? ⟨blk t, 0, none⟩ = some (.int .i64 (M.form t)) := hb.cell 0
            have hsz := h.tr.size
            have hne : blk t ≠ w.heap.size + 1 + 1 := by
              have := (HX.out.2.1.here t htN).lt
              omega
            have HK : Hid (keysOf wr w.heap.size = is1.length ∧ lenOf wr (w.heap.size + 2) = td2.length + 1) := ⟨h.keys, by rw [h.lens]; simp⟩
            have HP := Lib.hid h.pop
            have c6' : td2.length ≤ ct := by omega
            have HM : Hid (2 * (N - is1.length) + td2.length + 1 ≤ m0) := by
              unfold Hid
              rw [List.length_append] at hm
              simp at hm
              omega
            have HR := Lib.hid hr
            have htR := h.fnd.real t hti
            clear hm hr
            by_cases hf : M.form t = 1
            · have hfb : (M.form t == 1) = true := by simpa using hf
              have PL := Lib.hid hp.pop
              have hrow := (HX.out.2.1.rows t htN).turns h.tr (fun _ _ h => h)
              obtain ⟨Af, cf, hfv, hfr⟩ := hrow.read
              have hnb := hrow.small
              unfold maxLen at hnb
              have d1 : wr.cell? ⟨blk t, 1, none⟩ = some (.slice Af (M.len t) cf) := by rw [← hfv]; exact hb.cell 1
              have HF : Hid (∀ j, j < M.len t → (M.fld t j).Has (fun t => t < N) ∧ (M.fld t j).Has (Reach M)) := fun j hj => ⟨HX.out.2.1.named t htN j hj, (Reach.closed M).plain t htR hf j hj⟩
              have HFV := Lib.hid (And.intro hfv htN)
              clear h hp hb hf hfr hrow hfv htR
              generalize M.form t = ft at *
              generalize hbt : blk t = bt at *
              generalize hLL : td2.length = L at *
              generalize hnn : M.len t = n at *
              go_wp2_with fail
              go_loopw [50] (fun v wr2 => ∃ (j : Nat) (is2 td3 : List Nat) (tv3 : Value), j ≤ n ∧ v = .int .i64 j ∧ Rs w wr2 w.heap.size (w.heap.size + 1) (w.heap.size + 2) blk M N is2 td3 tv3 ∧ Plx M is2 td3 t j ∧ Rgs M is2 ∧ 2 * (N - is2.length) + td3.length ≤ 2 * (N - is1.length) + L) (fun v _ => n - (intOf v).toNat)
              case atStart => exact ⟨0, is1, td2, _, by omega, rfl, HP.out, PL.out, HR.out, by omega⟩
              case round =>
                rename_i wq _ _ _ _
                obtain ⟨j, is2, td3, tv3, hj, rfl, h, hpx, hr, hm⟩ := hrel
                by_cases hjn : j < n
                · obtain ⟨g2, rfl, hg2, e1, e2⟩ := (HFV.out.1 ▸ (HX.out.2.1.rows t HFV.out.2).turns h.tr (fun _ _ h => h)).at2 hnn hjn
                  obtain ⟨Y, hY⟩ : ∃ Y, vw (M.fld t j) = .int .u64 Y := by cases M.fld t j <;> exact ⟨_, rfl⟩
                  obtain ⟨Q, hQ⟩ : ∃ Q, vp blk (M.fld t j) = .pointer Q := by cases M.fld t j <;> exact ⟨_, rfl⟩
                  rw [hY] at e1
                  rw [hQ] at e2
                  have VE : vg blk (M.fld t j) = .agg #[.int .u64 Y, .pointer Q] := by rw [vg_eq, hY, hQ]
                  obtain ⟨hF1, hF2⟩ := HF.out j hjn
                  have PUT := Lib.hid (fun w1 (h1 : Rs w w1 w.heap.size (w.heap.size + 1) (w.heap.size + 2) blk M N is2 td3 tv3) => VE ▸ h1.put HX.out.2.1 hN (M.fld t j) hF1 hF2)
                  have HE := Lib.hid (And.intro h (And.intro hpx.put (And.intro (hr.put (M.fld t j)) (And.intro hm (nkI_len is2 (M.fld t j))))))
                  clear h hpx hr hm hY hQ VE hF1 hF2
                  go_wp2_with (first
                    | (go_at_call 27
                       refine (PUT.out _ (HE.out.1.quiet ((Turns.refl (fun _ => False) _).alloc _))).mono ?_
                       rintro e w2 ⟨rfl, tv2, h2⟩))
                  go_roundw
                  case rel =>
                    have := put_less h2 HE.out.2.2.2.1 HE.out.2.2.2.2
                    (repeat apply Exists.intro)
                    exact ⟨⟨j + 1, _, _, tv2, by omega, by go_num, h2, HE.out.2.1, HE.out.2.2.1, this⟩, rfl⟩
                  case measure => simp [intOf]; omega
                · obtain rfl : j = n := by omega
                  have HE := Lib.hid (And.intro h (And.intro (hpx.done (fun _ => by omega)) (And.intro hr hm)))
                  clear h hpx hr hm
                  go_wp2_with fail
                  go_roundw
                  case rel => exact ⟨is2, td3, tv3, HE.out.1, HE.out.2.1, HE.out.2.2.1, by have := HE.out.2.2.2; have := HM.out; omega⟩
                  case measure =>
                    have := HE.out.2.2.2
                    rw [HE.out.1.keys, HE.out.1.lens, HK.out.1, HK.out.2]
                    omega
            · have hfb : (M.form t == 1) = false := by simpa using hf
              have PL : Hid (Pln M is1 td2) := hp.pop.done (fun e => absurd e hf)
              clear h hp hb hf htR
              generalize M.form t = ft at *
              generalize hbt : blk t = bt at *
              generalize hLL : td2.length = L at *
              go_wp2_with fail
              go_roundw
              case rel => exact ⟨is1, td2, _, HP.out, PL.out, HR.out, by have := HM.out; omega⟩
              case measure =>
                rw [HP.out.keys, HP.out.lens, HK.out.1, HK.out.2]
                omega
end Go.Proofs.YtclcnepkgjcmcaaDoor
