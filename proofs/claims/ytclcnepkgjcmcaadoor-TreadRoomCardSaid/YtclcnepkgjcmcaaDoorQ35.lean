/- The laws' own world: do, its kind 3. -/
import Derived.Test.YtclcnepkgjcmcaaDoorQ32
namespace Go.Proofs.YtclcnepkgjcmcaaDoor
open Go.RowKit

set_option maxHeartbeats 2000000 in
set_option maxRecDepth 100000 in
/-- a register is the field of what another one names -/
theorem Ws.do3 {w : World} {x q p b : Nat} {e : Int} {G : Geo} {M : Md} {N B : Nat} {blk : Nat → Nat} {fv : Nat → Value} {al : Value} {full : Bool} {K : Gk} (s : Ws w x q p b e G M N B blk fv al false full K) (hxg : x ≠ 0) (k0 a0 b0 c0 n : Int) (hk : k0 = 3) :
    Calls Tryd.prog 7 #[.pointer (some ⟨x, 0, none⟩), .agg #[.int .i64 k0, .int .i64 a0, .int .i64 b0, .int .i64 c0, .int .i64 n]] w fun r w' => r = .returned (.tuple #[]) ∧ Ws w' x q p b e G (M.get3 (rgn a0) (rgn b0) n) N B blk fv al false full K.quiet ∧ Turns (DoT w x q p b B) w w' := by
  have RA := Lib.hid (fun w1 => reg_any a0 w1)
  have RB := Lib.hid (fun w1 => reg_any b0 w1)
  have RC := Lib.hid (fun w1 => reg_any c0 w1)
  obtain ⟨ea, ha⟩ := rgn_eq a0
  obtain ⟨eb, hb⟩ := rgn_eq b0
  obtain ⟨ec, hc⟩ := rgn_eq c0
  rw [ea] at RA
  rw [eb] at RB
  rw [ec] at RC
  generalize rgn a0 = ra at *
  generalize rgn b0 = rb at *
  generalize rgn c0 = rc at *
  clear ea eb ec
  subst hk
  have t1 := (Turns.refl (fun _ => False) w).alloc (.cells #[.int .i64 3, .int .i64 a0, .int .i64 b0, .int .i64 c0, .int .i64 n] 31)
  have s1 := s.quiet t1
  have hxb := Lies.made w 31 #[.int .i64 3, .int .i64 a0, .int .i64 b0, .int .i64 c0, .int .i64 n]
  have hh := s1.cells.cell 0
  have hh' : (wcells q blk M.reg al false full)[0]? = some (.pointer (some ⟨q, 0, none⟩)) := rfl
  rw [hh'] at hh
  have o0 := (hxb.cell 0).trans (show _ = some (Value.int .i64 3) from rfl)
  have o1 := (hxb.cell 1).trans (show _ = some (Value.int .i64 a0) from rfl)
  have o2 := (hxb.cell 2).trans (show _ = some (Value.int .i64 b0) from rfl)
  have o3 := (hxb.cell 3).trans (show _ = some (Value.int .i64 c0) from rfl)
  have o4 := (hxb.cell 4).trans (show _ = some (Value.int .i64 n) from rfl)
  have b0' : (0 : Int) ≤ (rb : Int) := by omega
  have b8' : (rb : Int) < 8 := by omega
  have a0' : (0 : Int) ≤ (ra : Int) := by omega
  have a8' : (ra : Int) < 8 := by omega
  have c1 := (s1.cells.cell (1 + rb * 2)).trans (wcells_at q blk M.reg al false full rb hb).1
  have c2 := (s1.cells.cell (1 + rb * 2 + 1)).trans (wcells_at q blk M.reg al false full rb hb).2
  obtain ⟨v1, v2⟩ := s1.regok hb
  have hT := Lib.hid t1
  unfold Md.get3
  generalize hV : M.reg rb = V0 at *
  cases V0 with
  | w y0 =>
    clear v1 v2
    simp only [vw, vp] at c1 c2
    have SR := Lib.hid (fun k => (s1.quiet ((Turns.refl (fun _ => False) _).drewN k)).weaken (fun _ _ _ _ h => Gk.refl h))
    clear s s1 t1 hxb hh'
    go_enter Tryd.func7, Tryd.ntmps7
    go_wp2_with (fail)
    generalize w.alloc (.cells #[.int .i64 3, .int .i64 a0, .int .i64 b0, .int .i64 c0, .int .i64 n] 31) = w1 at *
    generalize w.heap.size = g at *
    go_quiet ((go_at_call 20; first | exact quiet_do (RA.out _) | exact quiet_do (RB.out _) | exact quiet_do (RC.out _)))
    go_wp2_with (fail)
    go_end0
    exact ⟨rfl, SR.out _, (hT.out.drewN _).mono fun _ _ h => h.elim⟩
  | t z =>
    have hzR : Reach M z := v2
    clear v1 v2
    simp only [vw, vp] at c1 c2
    have hzN := s1.things.reach hzR
    have here := s1.things.here z hzN
    have row := s1.things.rows z hzN
    have hnb := row.small
    unfold maxLen at hnb
    obtain ⟨Af, cf, hfv, hfr⟩ := row.read
    have d0 : ((w.alloc (.cells #[.int .i64 3, .int .i64 a0, .int .i64 b0, .int .i64 c0, .int .i64 n] 31))).cell? ⟨blk z, 0, none⟩ = some (.int .i64 (M.form z)) := here.cell 0
    have d1 : ((w.alloc (.cells #[.int .i64 3, .int .i64 a0, .int .i64 b0, .int .i64 c0, .int .i64 n] 31))).cell? ⟨blk z, 1, none⟩ = some (.slice Af (M.len z) cf) := by rw [← hfv]; exact here.cell 1
    have d2 : ((w.alloc (.cells #[.int .i64 3, .int .i64 a0, .int .i64 b0, .int .i64 c0, .int .i64 n] 31))).cell? ⟨blk z, 2, none⟩ = some (.int .u64 (8 * M.cell z + 1)) := here.cell 2
    clear here row
    show Calls _ _ _ _ fun r w' => r = _ ∧ Ws w' x q p b e G (if M.form z = 1 ∧ 0 < M.len z then M.setReg ra (M.fld z (n % 18446744073709551616 % (M.len z : Int)).toNat) else M) N B blk fv al false full K.quiet ∧ Turns (DoT w x q p b B) w w'
    by_cases hl0 : M.len z = 0
    · rw [if_neg (by omega)]
      have SR := Lib.hid (fun k => (s1.quiet ((Turns.refl (fun _ => False) _).drewN k)).weaken (fun _ _ _ _ h => Gk.refl h))
      rw [hl0] at d1
      clear hfr hfv hl0 hnb
      generalize M.form z = ft at *
      clear s s1 t1 hxb hh'
      go_enter Tryd.func7, Tryd.ntmps7
      go_wp2_with (fail)
      generalize w.alloc (.cells #[.int .i64 3, .int .i64 a0, .int .i64 b0, .int .i64 c0, .int .i64 n] 31) = w1 at *
      generalize w.heap.size = g at *
      go_quiet ((go_at_call 20; first | exact quiet_do (RA.out _) | exact quiet_do (RB.out _) | exact quiet_do (RC.out _)))
      go_wp2_with (fail)
      go_end0
      exact ⟨rfl, SR.out _, (hT.out.drewN _).mono fun _ _ h => h.elim⟩
    · by_cases hf : M.form z = 1
      · rw [if_pos ⟨hf, by omega⟩]
        have hlp : 0 < M.len z := by omega
        have hj := u_mod n hlp hnb
        have hjl := u_modl n hlp
        have huw : IntKind.u64.wrap (M.len z : Int) = (M.len z : Int) := by rw [IntKind.wrap_u64]; omega
        generalize hjj : (n % 18446744073709551616 % (M.len z : Int)).toNat = j at *
        obtain ⟨gf, rfl, hgf, u1, u2⟩ := hfr j hjl
        have hfo := s1.fldok hzR hf hjl
        have GE := Lib.hid (fun w4 (h4 : Ws w4 x q p b e G M N B blk fv al false full K) => h4.get hzR (by omega) hjl)
        have WE := Lib.hid (fun w4 (h4 : Ws w4 x q p b e G M N B blk fv al false full K) => h4.word (v := M.fld z j) (s1.things.named z hzN j hjl))
        have SR := Lib.hid (fun w4 (h4 : Ws w4 x q p b e G M N B blk fv al false full K) => h4.setReg hxg ha hfo.1 hfo.2)
        have HS := Lib.hid s1
        have AT := Lib.hid (fun w4 (h4 : Ws w4 x q p b e G M N B blk fv al false full K) => h4.things.at_ hzN hjl hfv)
        rw [vg_eq] at WE SR
        generalize hwd : (M.fld z j).wd M.cell = wd at *
        obtain ⟨y, hy⟩ : ∃ y, vw (M.fld z j) = .int .u64 y := by cases M.fld z j <;> exact ⟨_, rfl⟩
        obtain ⟨P, hP⟩ : ∃ P, vp blk (M.fld z j) = .pointer P := by cases M.fld z j <;> exact ⟨_, rfl⟩
        rw [hy] at u1 WE SR AT
        rw [hP] at u2 WE SR AT
        have hne : (wd != wd) = false := by simp
        rw [hf] at d0
        generalize M.len z = ln at *
        have l0 : (0 : Int) < (ln : Int) := by omega
        have l1 : ((ln : Int) == 0) = false := by simp; omega
        have l2 : decide ((ln : Int) > 0) = true := by simp; omega
        clear hy hP hwd hfo hjj hl0 hf
        clear s s1 t1 hxb hh'
        go_enter Tryd.func7, Tryd.ntmps7
        go_wp2_with (fail)
        generalize w.alloc (.cells #[.int .i64 3, .int .i64 a0, .int .i64 b0, .int .i64 c0, .int .i64 n] 31) = w1 at *
        generalize w.heap.size = g at *
        go_quiet ((go_at_call 20; first | exact quiet_do (RA.out _) | exact quiet_do (RB.out _) | exact quiet_do (RC.out _)))
        go_wp2_with (fail)
        go_quiet (fail)
        go_wp2_with fail
        go_region_with (first
          | (go_at_call 23
             first
              | refine (GE.out _ (HS.out.quiet (Turns.refl (fun _ => False) _).drew)).mono ?_
              | refine (GE.out _ (HS.out.quiet (((Turns.refl (fun _ => False) _).drewN _).drew))).mono ?_
              | refine (GE.out _ (HS.out.quiet (((Turns.refl (fun _ => False) _).drewN _).drewN _))).mono ?_
              | refine (GE.out _ (HS.out.quiet (Turns.refl (fun _ => False) _).drewN _)).mono ?_
             rintro r4 w4 ⟨rfl, s4, t4⟩))
        all_goals
          have T4 : Turns (DoT w x q p b B) w w4 := by
            first
              | exact (((hT.out.drewN _).drew).mono fun _ _ h => h.elim).then t4 (fun i _ h => .inl (.inr h))
              | exact ((hT.out.drew).mono fun _ _ h => h.elim).then t4 (fun i _ h => .inl (.inr h))
              | exact (((hT.out.drewN _).drewN _).mono fun _ _ h => h.elim).then t4 (fun i _ h => .inl (.inr h))
          obtain ⟨a1, a2, a3, -⟩ := AT.out w4 s4
          have k18 : w4.cell? ⟨x, 18, none⟩ = some (.bool false) := (s4.cells.cell 18).trans rfl
          have S4 := Lib.hid s4
          have HB := Lib.hid (s4.high z hzN)
          have HX := Lib.hid s4.lx
          clear s4 t4 c1 c2 d0 d1 d2 hh o0 o1 o2 o3 o4 u1 u2
          go_wp2_with (first
            | (go_at_call 24
               refine (WE.out _ S4.out).mono ?_
               rintro r7 w7 ⟨rfl, s7, t7⟩
               obtain ⟨e1, e2, e3, hgB⟩ := AT.out w7 s7
               have m18 : w7.cell? ⟨x, 18, none⟩ = some (.bool false) := (s7.cells.cell 18).trans rfl
               have f18 := s7.cells.free 18
               have S8 := Lib.hid (s7.setBad hxg false)
               have n1 : ¬ (gf = x) := by have := HX.out; omega
               have n2 : ¬ (blk z = x) := by have := HX.out; have := HB.out; omega
               clear s7)
            | (go_at_call 22
               refine (SR.out _ S8.out).mono ?_
               rintro r9 w9 ⟨rfl, s9, t9⟩))
          go_end0
          exact ⟨rfl, s9, ((T4.then t7 (fun i _ h => h.elim)).setCell (p := ⟨x, 18, none⟩) (fun _ => .inl (.inl rfl)) _).then t9 (fun i _ h => .inl h)⟩
      · have hfb : (M.form z == 1) = false := by simpa using hf
        rw [if_neg (fun h => hf h.1)]
        have SR := Lib.hid (fun k => (s1.quiet ((Turns.refl (fun _ => False) _).drewN k)).weaken (fun _ _ _ _ h => Gk.refl h))
        have hlp : (0 : Int) < M.len z := by omega
        clear hfr hfv hf hl0
        generalize M.form z = ft at *
        generalize M.len z = ln at *
        clear s s1 t1 hxb hh'
        go_enter Tryd.func7, Tryd.ntmps7
        go_wp2_with (fail)
        generalize w.alloc (.cells #[.int .i64 3, .int .i64 a0, .int .i64 b0, .int .i64 c0, .int .i64 n] 31) = w1 at *
        generalize w.heap.size = g at *
        go_quiet ((go_at_call 20; first | exact quiet_do (RA.out _) | exact quiet_do (RB.out _) | exact quiet_do (RC.out _)))
        go_wp2_with (fail)
        go_end0
        exact ⟨rfl, SR.out _, (hT.out.drewN _).mono fun _ _ h => h.elim⟩
end Go.Proofs.YtclcnepkgjcmcaaDoor
