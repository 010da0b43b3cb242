/- The laws' own world: do, its kind 4. -/
import Derived.Test.YtclcnepkgjcmcaaDoorQ32
namespace Go.Proofs.YtclcnepkgjcmcaaDoor
open Go.RowKit

set_option maxHeartbeats 2000000 in
set_option maxRecDepth 100000 in
/-- the field of what a register names is what another one is -/
theorem Ws.do4 {w : World} {x q p b : Nat} {e : Int} {G : Geo} {M : Md} {N B : Nat} {blk : Nat → Nat} {fv : Nat → Value} {al : Value} {full : Bool} {K : Gk} (s : Ws w x q p b e G M N B blk fv al false full K) (hxg : x ≠ 0) (k0 a0 b0 c0 n : Int) (hk : k0 = 4) :
    Calls Tryd.prog 7 #[.pointer (some ⟨x, 0, none⟩), .agg #[.int .i64 k0, .int .i64 a0, .int .i64 b0, .int .i64 c0, .int .i64 n]] w fun r w' => r = .returned (.tuple #[]) ∧ Ws w' x q p b e G (M.put4 (rgn a0) (rgn b0) n) N B blk fv al false full K.quiet ∧ Turns (DoT w x q p b B) w w' := by
  have RA := Lib.hid (fun w1 => reg_any a0 w1)
  have RB := Lib.hid (fun w1 => reg_any b0 w1)
  have RC := Lib.hid (fun w1 => reg_any c0 w1)
  obtain ⟨ea, ha⟩ := rgn_eq a0
  obtain ⟨eb, hb⟩ := rgn_eq b0
  obtain ⟨ec, hc⟩ := rgn_eq c0
  rw [ea] at RA
  rw [eb] at RB
  rw [ec] at RC
  generalize rgn a0 = ra at *
  generalize rgn b0 = rb at *
  generalize rgn c0 = rc at *
  clear ea eb ec
  subst hk
  have t1 := (Turns.refl (fun _ => False) w).alloc (.cells #[.int .i64 4, .int .i64 a0, .int .i64 b0, .int .i64 c0, .int .i64 n] 31)
  have s1 := s.quiet t1
  have hxb := Lies.made w 31 #[.int .i64 4, .int .i64 a0, .int .i64 b0, .int .i64 c0, .int .i64 n]
  have hh := s1.cells.cell 0
  have hh' : (wcells q blk M.reg al false full)[0]? = some (.pointer (some ⟨q, 0, none⟩)) := rfl
  rw [hh'] at hh
  have o0 := (hxb.cell 0).trans (show _ = some (Value.int .i64 4) from rfl)
  have o1 := (hxb.cell 1).trans (show _ = some (Value.int .i64 a0) from rfl)
  have o2 := (hxb.cell 2).trans (show _ = some (Value.int .i64 b0) from rfl)
  have o3 := (hxb.cell 3).trans (show _ = some (Value.int .i64 c0) from rfl)
  have o4 := (hxb.cell 4).trans (show _ = some (Value.int .i64 n) from rfl)
  have b0' : (0 : Int) ≤ (rb : Int) := by omega
  have b8' : (rb : Int) < 8 := by omega
  have a0' : (0 : Int) ≤ (ra : Int) := by omega
  have a8' : (ra : Int) < 8 := by omega
  have c1 := (s1.cells.cell (1 + ra * 2)).trans (wcells_at q blk M.reg al false full ra ha).1
  have c2 := (s1.cells.cell (1 + ra * 2 + 1)).trans (wcells_at q blk M.reg al false full ra ha).2
  obtain ⟨v1, v2⟩ := s1.regok ha
  have hT := Lib.hid t1
  unfold Md.put4
  generalize hV : M.reg ra = V0 at *
  cases V0 with
  | w y0 =>
    clear v1 v2
    simp only [vw, vp] at c1 c2
    have SR := Lib.hid (fun k => (s1.quiet ((Turns.refl (fun _ => False) _).drewN k)).weaken (fun _ _ _ _ h => Gk.refl h))
    clear s s1 t1 hxb hh'
    go_enter Tryd.func7, Tryd.ntmps7
    go_wp2_with (fail)
    generalize w.alloc (.cells #[.int .i64 4, .int .i64 a0, .int .i64 b0, .int .i64 c0, .int .i64 n] 31) = w1 at *
    generalize w.heap.size = g at *
    go_quiet ((go_at_call 20; first | exact quiet_do (RA.out _) | exact quiet_do (RB.out _) | exact quiet_do (RC.out _)))
    go_wp2_with (fail)
    go_end0
    exact ⟨rfl, SR.out _, (hT.out.drewN _).mono fun _ _ h => h.elim⟩
  | t z =>
    have hzR : Reach M z := v2
    clear v1 v2
    simp only [vw, vp] at c1 c2
    have hzN := s1.things.reach hzR
    have here := s1.things.here z hzN
    have row := s1.things.rows z hzN
    have hnb := row.small
    unfold maxLen at hnb
    obtain ⟨Af, cf, hfv, hfr⟩ := row.read
    have d0 : ((w.alloc (.cells #[.int .i64 4, .int .i64 a0, .int .i64 b0, .int .i64 c0, .int .i64 n] 31))).cell? ⟨blk z, 0, none⟩ = some (.int .i64 (M.form z)) := here.cell 0
    have d1 : ((w.alloc (.cells #[.int .i64 4, .int .i64 a0, .int .i64 b0, .int .i64 c0, .int .i64 n] 31))).cell? ⟨blk z, 1, none⟩ = some (.slice Af (M.len z) cf) := by rw [← hfv]; exact here.cell 1
    have d2 : ((w.alloc (.cells #[.int .i64 4, .int .i64 a0, .int .i64 b0, .int .i64 c0, .int .i64 n] 31))).cell? ⟨blk z, 2, none⟩ = some (.int .u64 (8 * M.cell z + 1)) := here.cell 2
    clear here row
    show Calls _ _ _ _ fun r w' => r = _ ∧ Ws w' x q p b e G (if M.form z = 1 ∧ 0 < M.len z then M.setFld z (n % 18446744073709551616 % (M.len z : Int)).toNat (M.reg rb) else M) N B blk fv al false full K.quiet ∧ Turns (DoT w x q p b B) w w'
    by_cases hl0 : M.len z = 0
    · rw [if_neg (by omega)]
      have SR := Lib.hid (fun k => (s1.quiet ((Turns.refl (fun _ => False) _).drewN k)).weaken (fun _ _ _ _ h => Gk.refl h))
      rw [hl0] at d1
      clear hfr hfv hl0 hnb
      generalize M.form z = ft at *
      clear s s1 t1 hxb hh'
      go_enter Tryd.func7, Tryd.ntmps7
      go_wp2_with (fail)
      generalize w.alloc (.cells #[.int .i64 4, .int .i64 a0, .int .i64 b0, .int .i64 c0, .int .i64 n] 31) = w1 at *
      generalize w.heap.size = g at *
      go_quiet ((go_at_call 20; first | exact quiet_do (RA.out _) | exact quiet_do (RB.out _) | exact quiet_do (RC.out _)))
      go_wp2_with (fail)
      go_end0
      exact ⟨rfl, SR.out _, (hT.out.drewN _).mono fun _ _ h => h.elim⟩
    · by_cases hf : M.form z = 1
      · rw [if_pos ⟨hf, by omega⟩]
        have hlp : 0 < M.len z := by omega
        have hj := u_mod n hlp hnb
        have hjl := u_modl n hlp
        have huw : IntKind.u64.wrap (M.len z : Int) = (M.len z : Int) := by rw [IntKind.wrap_u64]; omega
        generalize hjj : (n % 18446744073709551616 % (M.len z : Int)).toNat = j at *
        obtain ⟨gf, rfl, hgf, u1, u2⟩ := hfr j hjl
        obtain ⟨hvo, hvR⟩ := s1.regok hb
        have hvN : (M.reg rb).Has (fun t => t < N) := V.Has.mono (fun i => s1.things.reach) hvR
        have r1 := (s1.cells.cell (1 + rb * 2)).trans (wcells_at q blk M.reg al false full rb hb).1
        have r2 := (s1.cells.cell (1 + rb * 2 + 1)).trans (wcells_at q blk M.reg al false full rb hb).2
        have SE := Lib.hid (fun w4 (h4 : Ws w4 x q p b e G M N B blk fv al false full K) => h4.hsetR hzR hjl hvo hvR hf)
        have WE := Lib.hid (fun w4 (h4 : Ws w4 x q p b e G M N B blk fv al false full K) => h4.word hvN)
        have PU := Lib.hid (fun w5 (k5 : Lies w5 x 43 (wcells q blk M.reg al false full) ∧ Thw w5 B blk fv M N ∧ OwnP w5 B al ((List.range N).map blk) ∧ B ≤ w5.heap.size) (h5 : ∃ H R A D, Tr w5 q p b G H ∧ Safe e G H R (M.setFld z j (M.reg rb)) A D ∧ K.quiet.low N H R A D) => s1.put (K := K.quiet) k5 h5 hzN hjl hfv hvN)
        have HB := Lib.hid (fun w5 k5 (h5 : ∃ H R A D, Tr w5 q p b G H ∧ Safe e G H R (M.setFld z j (M.reg rb)) A D ∧ K.quiet.low N H R A D) => s1.hbad (w' := w5) (K' := K.quiet.low N) hxg k5 h5)
        have HS := Lib.hid s1
        have AT := Lib.hid (fun w4 (h4 : Thw w4 B blk fv M N) => h4.at_ hzN hjl hfv)
        have RT := Lib.hid (fun w4 (h4 : Lies w4 x 43 (wcells q blk M.reg al false full)) => And.intro ((h4.cell (1 + rb * 2)).trans (wcells_at q blk M.reg al false full rb hb).1) ((h4.cell (1 + rb * 2 + 1)).trans (wcells_at q blk M.reg al false full rb hb).2))
        have hzB := s1.high z hzN
        have hgB := (AT.out _ s1.things).2.2.2
        have hgM : ∀ ks, ¬ PMap w gf ks := fun ks pm => row_not_map (s1.things.rows z hzN) (pm.turns hT.out (fun h => h)) gf (by rw [hfv]; rfl) rfl
        have hxB := s1.lx
        rw [vg_eq] at WE
        generalize hVr : M.reg rb = Vr at *
        generalize hwd : Vr.wd M.cell = wd at *
        obtain ⟨y, hy⟩ : ∃ y, vw Vr = .int .u64 y := by cases Vr <;> exact ⟨_, rfl⟩
        obtain ⟨P, hP⟩ : ∃ P, vp blk Vr = .pointer P := by cases Vr <;> exact ⟨_, rfl⟩
        rw [hy] at r1 WE RT PU
        rw [hP] at r2 WE RT PU
        rw [hf] at d0
        have k18 : ((w.alloc (.cells #[.int .i64 4, .int .i64 a0, .int .i64 b0, .int .i64 c0, .int .i64 n] 31))).cell? ⟨x, 18, none⟩ = some (.bool false) := (s1.cells.cell 18).trans rfl
        generalize M.len z = ln at *
        have l0 : (0 : Int) < (ln : Int) := by omega
        have l1 : ((ln : Int) == 0) = false := by simp; omega
        have l2 : decide ((ln : Int) > 0) = true := by simp; omega
        clear hy hP hwd hjj hl0 hf hvo hvR hvN hVr
        clear s s1 t1 hxb hh'
        go_enter Tryd.func7, Tryd.ntmps7
        go_wp2_with (fail)
        generalize w.alloc (.cells #[.int .i64 4, .int .i64 a0, .int .i64 b0, .int .i64 c0, .int .i64 n] 31) = w1 at *
        generalize w.heap.size = g at *
        go_quiet ((go_at_call 20; first | exact quiet_do (RA.out _) | exact quiet_do (RB.out _) | exact quiet_do (RC.out _)))
        go_wp2_with (fail)
        go_quiet (fail)
        go_wp2_with fail
        generalize hW2 : World.drewN _ _ = W2
        have T2 : Turns (fun _ => False) w W2 := hW2 ▸ (hT.out.drewN _).drewN _
        have s2 := HS.out.quiet (hW2 ▸ ((Turns.refl (fun _ => False) _).drewN _).drewN _)
        clear hW2
        have S2 := Lib.hid s2
        have p0 : W2.cell? ⟨x, 0, none⟩ = some (.pointer (some ⟨q, 0, none⟩)) := s2.cells.cell 0
        have p18 : W2.cell? ⟨x, 18, none⟩ = some (.bool false) := (s2.cells.cell 18).trans rfl
        have p2 : W2.cell? ⟨blk z, 2, none⟩ = some (.int .u64 (8 * M.cell z + 1)) := (s2.things.here z hzN).cell 2
        obtain ⟨q1, q2⟩ := RT.out W2 s2.cells
        clear s2 c1 c2 d0 d1 d2 hh o0 o1 o2 o3 o4 u1 u2 r1 r2 k18
        go_region_held3 (fun w' => w'.cell? ⟨x, 0, none⟩ = some (.pointer (some ⟨q, 0, none⟩)) ∧ w'.cell? ⟨x, 18, none⟩ = some (.bool false) ∧ w'.cell? ⟨blk z, 2, none⟩ = some (.int .u64 (8 * M.cell z + 1)) ∧ w'.cell? ⟨x, 1 + rb * 2, none⟩ = some (.int .u64 y) ∧ w'.cell? ⟨x, 1 + rb * 2 + 1, none⟩ = some (.pointer P)) (first | go_keep | exact k4 | exact k5 | exact k6)
          (first
            | (go_at_call 24
               refine (WE.out _ (S2.out.quiet ((Turns.refl (fun _ => False) _).drew))).mono ?_
               rintro r4 w4 ⟨rfl, s4, t4⟩
               have k4 : w4.cell? ⟨x, 0, none⟩ = some (.pointer (some ⟨q, 0, none⟩)) ∧ w4.cell? ⟨x, 18, none⟩ = some (.bool false) ∧ w4.cell? ⟨blk z, 2, none⟩ = some (.int .u64 (8 * M.cell z + 1)) ∧ w4.cell? ⟨x, 1 + rb * 2, none⟩ = some (.int .u64 y) ∧ w4.cell? ⟨x, 1 + rb * 2 + 1, none⟩ = some (.pointer P) := ⟨s4.cells.cell 0, (s4.cells.cell 18).trans rfl, (s4.things.here z hzN).cell 2, (RT.out _ s4.cells).1, (RT.out _ s4.cells).2⟩
               have S4 := Lib.hid s4
               clear s4)
            | (go_at_call 25
               refine (SE.out _ S4.out).mono ?_
               rintro r5 w5 ⟨rfl, g5, h5, t5⟩
               have k5 : w5.cell? ⟨x, 0, none⟩ = some (.pointer (some ⟨q, 0, none⟩)) ∧ w5.cell? ⟨x, 18, none⟩ = some (.bool false) ∧ w5.cell? ⟨blk z, 2, none⟩ = some (.int .u64 (8 * M.cell z + 1)) ∧ w5.cell? ⟨x, 1 + rb * 2, none⟩ = some (.int .u64 y) ∧ w5.cell? ⟨x, 1 + rb * 2 + 1, none⟩ = some (.pointer P) := ⟨g5.1.cell 0, (g5.1.cell 18).trans rfl, (g5.2.1.here z hzN).cell 2, (RT.out _ g5.1).1, (RT.out _ g5.1).2⟩
               have f18 := g5.1.free 18
               obtain ⟨g6, h6⟩ := HB.out w5 g5 h5
               have k6 : (w5.setCell ⟨x, 18, none⟩ (.bool false)).cell? ⟨x, 0, none⟩ = some (.pointer (some ⟨q, 0, none⟩)) ∧ (w5.setCell ⟨x, 18, none⟩ (.bool false)).cell? ⟨x, 18, none⟩ = some (.bool false) ∧ (w5.setCell ⟨x, 18, none⟩ (.bool false)).cell? ⟨blk z, 2, none⟩ = some (.int .u64 (8 * M.cell z + 1)) ∧ (w5.setCell ⟨x, 18, none⟩ (.bool false)).cell? ⟨x, 1 + rb * 2, none⟩ = some (.int .u64 y) ∧ (w5.setCell ⟨x, 18, none⟩ (.bool false)).cell? ⟨x, 1 + rb * 2 + 1, none⟩ = some (.pointer P) := ⟨g6.1.cell 0, (g6.1.cell 18).trans rfl, (g6.2.1.here z hzN).cell 2, (RT.out _ g6.1).1, (RT.out _ g6.1).2⟩
               have G6 := Lib.hid (And.intro g6 h6)
               clear g5 h5 g6 h6))
        obtain ⟨g6, h6⟩ := G6.out
        have T6 : Turns (DoT w x q p b B) w (w5.setCell ⟨x, 18, none⟩ (.bool false)) := ((((T2.drew).mono fun _ _ h => h.elim).then t4 (fun i _ h => h.elim)).then t5 (fun i _ h => .inl (.inr h))).setCell (p := ⟨x, 18, none⟩) (fun _ => .inl (.inl rfl)) _
        generalize w5.setCell ⟨x, 18, none⟩ (.bool false) = W6 at *
        obtain ⟨j1, j2, j3, -⟩ := AT.out W6 g6.2.1
        have ff1 := g6.2.1.free hzN hfv (j * 2)
        have ff2 := g6.2.1.free hzN hfv (j * 2 + 1)
        obtain ⟨i1, i2⟩ := RT.out W6 g6.1
        have n1 : ¬ (gf = x) := by omega
        have n2 : ¬ (gf = blk z) := fun e2 => (g6.2.1.rows z hzN).apart (g6.2.1.here z hzN) (by decide) (by rw [hfv, e2]; rfl)
        have m1 : (j * 2 + 1 = j * 2) = False := by simp
        have HP := Lib.hid (PU.out W6 g6 h6)
        clear g6 h6 p0 p18 p2 q1 q2 k4 k5 k6 f18
        go_wp2_with fail
        go_region_with (fail)
        all_goals go_wp2_with fail
        all_goals go_end0
        all_goals exact ⟨rfl, by first | exact HP.out | exact HP.out.quiet (Turns.refl (fun _ => False) _).drew, by
          first
            | exact ((T6.setCell (p := ⟨gf, j * 2, none⟩) (fun _ => .inr ⟨hgB, hgM⟩) _).setCell (p := ⟨gf, j * 2 + 1, none⟩) (fun _ => .inr ⟨hgB, hgM⟩) _)
            | exact ((T6.setCell (p := ⟨gf, j * 2, none⟩) (fun _ => .inr ⟨hgB, hgM⟩) _).setCell (p := ⟨gf, j * 2 + 1, none⟩) (fun _ => .inr ⟨hgB, hgM⟩) _).drew⟩
      · have hfb : (M.form z == 1) = false := by simpa using hf
        rw [if_neg (fun h => hf h.1)]
        have SR := Lib.hid (fun k => (s1.quiet ((Turns.refl (fun _ => False) _).drewN k)).weaken (fun _ _ _ _ h => Gk.refl h))
        have hlp : (0 : Int) < M.len z := by omega
        clear hfr hfv hf hl0
        generalize M.form z = ft at *
        generalize M.len z = ln at *
        clear s s1 t1 hxb hh'
        go_enter Tryd.func7, Tryd.ntmps7
        go_wp2_with (fail)
        generalize w.alloc (.cells #[.int .i64 4, .int .i64 a0, .int .i64 b0, .int .i64 c0, .int .i64 n] 31) = w1 at *
        generalize w.heap.size = g at *
        go_quiet ((go_at_call 20; first | exact quiet_do (RA.out _) | exact quiet_do (RB.out _) | exact quiet_do (RC.out _)))
        go_wp2_with (fail)
        go_end0
        exact ⟨rfl, SR.out _, (hT.out.drewN _).mono fun _ _ h => h.elim⟩
end Go.Proofs.YtclcnepkgjcmcaaDoor
