/- The laws' own world: do, its kinds 2 and 5. -/
import Derived.Test.YtclcnepkgjcmcaaDoorQ32
namespace Go.Proofs.YtclcnepkgjcmcaaDoor
open Go.RowKit

set_option maxHeartbeats 2000000 in
set_option maxRecDepth 100000 in
/-- a register is what another one is -/
theorem Ws.do2 {w : World} {x q p b : Nat} {e : Int} {G : Geo} {M : Md} {N B : Nat} {blk : Nat → Nat} {fv : Nat → Value} {al : Value} {full : Bool} {K : Gk} (s : Ws w x q p b e G M N B blk fv al false full K) (hxg : x ≠ 0) (k0 a0 b0 c0 n : Int) (hk : k0 = 2) :
    Calls Tryd.prog 7 #[.pointer (some ⟨x, 0, none⟩), .agg #[.int .i64 k0, .int .i64 a0, .int .i64 b0, .int .i64 c0, .int .i64 n]] w fun r w' => r = .returned (.tuple #[]) ∧ Ws w' x q p b e G (M.setReg (rgn a0) (M.reg (rgn b0))) N B blk fv al false full K.quiet ∧ Turns (DoT w x q p b B) w w' := by
  have RA := Lib.hid (fun w1 => reg_any a0 w1)
  have RB := Lib.hid (fun w1 => reg_any b0 w1)
  have RC := Lib.hid (fun w1 => reg_any c0 w1)
  obtain ⟨ea, ha⟩ := rgn_eq a0
  obtain ⟨eb, hb⟩ := rgn_eq b0
  obtain ⟨ec, hc⟩ := rgn_eq c0
  rw [ea] at RA
  rw [eb] at RB
  rw [ec] at RC
  generalize rgn a0 = ra at *
  generalize rgn b0 = rb at *
  generalize rgn c0 = rc at *
  clear ea eb ec
  subst hk
  have t1 := (Turns.refl (fun _ => False) w).alloc (.cells #[.int .i64 2, .int .i64 a0, .int .i64 b0, .int .i64 c0, .int .i64 n] 31)
  have s1 := s.quiet t1
  have hxb := Lies.made w 31 #[.int .i64 2, .int .i64 a0, .int .i64 b0, .int .i64 c0, .int .i64 n]
  have hh := s1.cells.cell 0
  have hh' : (wcells q blk M.reg al false full)[0]? = some (.pointer (some ⟨q, 0, none⟩)) := rfl
  rw [hh'] at hh
  have o0 := (hxb.cell 0).trans (show _ = some (Value.int .i64 2) from rfl)
  have o1 := (hxb.cell 1).trans (show _ = some (Value.int .i64 a0) from rfl)
  have o2 := (hxb.cell 2).trans (show _ = some (Value.int .i64 b0) from rfl)
  have o3 := (hxb.cell 3).trans (show _ = some (Value.int .i64 c0) from rfl)
  have o4 := (hxb.cell 4).trans (show _ = some (Value.int .i64 n) from rfl)
  have b0' : (0 : Int) ≤ (rb : Int) := by omega
  have b8' : (rb : Int) < 8 := by omega
  have a0' : (0 : Int) ≤ (ra : Int) := by omega
  have a8' : (ra : Int) < 8 := by omega
  have c1 := (s1.cells.cell (1 + rb * 2)).trans (wcells_at q blk M.reg al false full rb hb).1
  have c2 := (s1.cells.cell (1 + rb * 2 + 1)).trans (wcells_at q blk M.reg al false full rb hb).2
  obtain ⟨v1, v2⟩ := s1.regok hb
  have SR := Lib.hid (fun k w' (h : w' = ((w.alloc (.cells #[.int .i64 2, .int .i64 a0, .int .i64 b0, .int .i64 c0, .int .i64 n] 31))).drewN k) => (h ▸ s1.quiet ((Turns.refl (fun _ => False) _).drewN k)).setReg hxg ha v1 v2)
  have hT := Lib.hid t1
  rw [vg_eq] at SR
  generalize M.reg rb = V0 at *
  obtain ⟨y, hy⟩ : ∃ y, vw V0 = .int .u64 y := by cases V0 <;> exact ⟨_, rfl⟩
  obtain ⟨P, hP⟩ : ∃ P, vp blk V0 = .pointer P := by cases V0 <;> exact ⟨_, rfl⟩
  rw [hy] at c1 SR
  rw [hP] at c2 SR
  clear hy hP v1 v2
  clear s s1 t1 hxb hh'
  go_enter Tryd.func7, Tryd.ntmps7
  go_wp2_with (fail)
  generalize w.alloc (.cells #[.int .i64 2, .int .i64 a0, .int .i64 b0, .int .i64 c0, .int .i64 n] 31) = w1 at *
  generalize w.heap.size = g at *
  go_quiet ((go_at_call 20; first | exact quiet_do (RA.out _) | exact quiet_do (RB.out _) | exact quiet_do (RC.out _)))
  go_wp2_with (
    go_at_call 22
    refine (SR.out _ _ rfl).mono ?_
    rintro r w2 ⟨rfl, s2, t2⟩)
  go_end0
  exact ⟨rfl, s2, ((hT.out.drewN _).mono fun _ _ h => h.elim).then t2 (fun i _ h => .inl h)⟩
set_option maxHeartbeats 2000000 in
set_option maxRecDepth 100000 in
/-- a register is a number -/
theorem Ws.do5 {w : World} {x q p b : Nat} {e : Int} {G : Geo} {M : Md} {N B : Nat} {blk : Nat → Nat} {fv : Nat → Value} {al : Value} {full : Bool} {K : Gk} (s : Ws w x q p b e G M N B blk fv al false full K) (hxg : x ≠ 0) (k0 a0 b0 c0 n : Int) (hk : k0 = 5) :
    Calls Tryd.prog 7 #[.pointer (some ⟨x, 0, none⟩), .agg #[.int .i64 k0, .int .i64 a0, .int .i64 b0, .int .i64 c0, .int .i64 n]] w fun r w' => r = .returned (.tuple #[]) ∧ Ws w' x q p b e G (if WM.hd 0 n then M.setReg (rgn a0) (.w (WM.mk 0 n)) else M) N B blk fv al false full K.quiet ∧ Turns (DoT w x q p b B) w w' := by
  have RA := Lib.hid (fun w1 => reg_any a0 w1)
  have RB := Lib.hid (fun w1 => reg_any b0 w1)
  have RC := Lib.hid (fun w1 => reg_any c0 w1)
  obtain ⟨ea, ha⟩ := rgn_eq a0
  obtain ⟨eb, hb⟩ := rgn_eq b0
  obtain ⟨ec, hc⟩ := rgn_eq c0
  rw [ea] at RA
  rw [eb] at RB
  rw [ec] at RC
  generalize rgn a0 = ra at *
  generalize rgn b0 = rb at *
  generalize rgn c0 = rc at *
  clear ea eb ec
  subst hk
  have t1 := (Turns.refl (fun _ => False) w).alloc (.cells #[.int .i64 5, .int .i64 a0, .int .i64 b0, .int .i64 c0, .int .i64 n] 31)
  have s1 := s.quiet t1
  have hxb := Lies.made w 31 #[.int .i64 5, .int .i64 a0, .int .i64 b0, .int .i64 c0, .int .i64 n]
  have hh := s1.cells.cell 0
  have hh' : (wcells q blk M.reg al false full)[0]? = some (.pointer (some ⟨q, 0, none⟩)) := rfl
  rw [hh'] at hh
  have o0 := (hxb.cell 0).trans (show _ = some (Value.int .i64 5) from rfl)
  have o1 := (hxb.cell 1).trans (show _ = some (Value.int .i64 a0) from rfl)
  have o2 := (hxb.cell 2).trans (show _ = some (Value.int .i64 b0) from rfl)
  have o3 := (hxb.cell 3).trans (show _ = some (Value.int .i64 c0) from rfl)
  have o4 := (hxb.cell 4).trans (show _ = some (Value.int .i64 n) from rfl)
  have b0' : (0 : Int) ≤ (rb : Int) := by omega
  have b8' : (rb : Int) < 8 := by omega
  have a0' : (0 : Int) ≤ (ra : Int) := by omega
  have a8' : (ra : Int) < 8 := by omega
  have FX := Lib.hid (fun w1 => fix_any n w1)
  have hT := Lib.hid t1
  by_cases hn : WM.hd 0 n = true
  · have v1 : (V.w (WM.mk 0 n)).ok := fix_ok n
    have SR := Lib.hid (fun k w' (h : w' = ((w.alloc (.cells #[.int .i64 5, .int .i64 a0, .int .i64 b0, .int .i64 c0, .int .i64 n] 31))).drewN k) => (h ▸ s1.quiet ((Turns.refl (fun _ => False) _).drewN k)).setReg hxg ha v1 trivial)
    rw [vg_eq] at SR
    simp only [made, hn, if_true] at FX
    rw [if_pos hn]
    generalize WM.mk 0 n = y at *
    simp only [vw, vp] at SR
    clear v1 hn
    clear s s1 t1 hxb hh'
    go_enter Tryd.func7, Tryd.ntmps7
    go_wp2_with (fail)
    generalize w.alloc (.cells #[.int .i64 5, .int .i64 a0, .int .i64 b0, .int .i64 c0, .int .i64 n] 31) = w1 at *
    generalize w.heap.size = g at *
    go_quiet ((go_at_call 20; first | exact quiet_do (RA.out _) | exact quiet_do (RB.out _) | exact quiet_do (RC.out _)))
    go_wp2_with (first
      | (go_at_call 26; refine (FX.out _).mono ?_; rintro r w2 ⟨rfl, rfl⟩)
      | (go_at_call 22
         refine (SR.out _ _ rfl).mono ?_
         rintro r w2 ⟨rfl, s2, t2⟩))
    go_end0
    exact ⟨rfl, s2, ((hT.out.drewN _).mono fun _ _ h => h.elim).then t2 (fun i _ h => .inl h)⟩
  · have SR := Lib.hid (fun k => (s1.quiet ((Turns.refl (fun _ => False) _).drewN k)).weaken (fun _ _ _ _ h => Gk.refl h))
    simp only [made, hn, if_false, Bool.false_eq_true] at FX
    rw [if_neg hn]
    clear hn
    clear s s1 t1 hxb hh'
    go_enter Tryd.func7, Tryd.ntmps7
    go_wp2_with (fail)
    generalize w.alloc (.cells #[.int .i64 5, .int .i64 a0, .int .i64 b0, .int .i64 c0, .int .i64 n] 31) = w1 at *
    generalize w.heap.size = g at *
    go_quiet ((go_at_call 20; first | exact quiet_do (RA.out _) | exact quiet_do (RB.out _) | exact quiet_do (RC.out _)))
    go_wp2_with (go_at_call 26; refine (FX.out _).mono ?_; rintro r w2 ⟨rfl, rfl⟩)
    go_end0
    exact ⟨rfl, SR.out _, (hT.out.drewN _).mono fun _ _ h => h.elim⟩
end Go.Proofs.YtclcnepkgjcmcaaDoor
