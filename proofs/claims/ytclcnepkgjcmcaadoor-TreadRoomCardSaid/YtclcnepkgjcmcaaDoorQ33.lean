/- The laws' own world: do, the kinds that need no new thing. -/
import Derived.Test.YtclcnepkgjcmcaaDoorQ32
namespace Go.Proofs.YtclcnepkgjcmcaaDoor
open Go.RowKit

theorem Ws.quiet_incs {w : World} {x q p b : Nat} {e : Int} {G : Geo} {M : Md} {N B : Nat} {blk : Nat → Nat} {fv : Nat → Value} {al : Value} {bad full : Bool} {K : Gk} (s : Ws w x q p b e G M N B blk fv al bad full K) (n : Nat) (hn : n ≤ 1000) (he : e + n ≤ 1000000000) (k : Nat) :
    Calls Tryd.prog 15 #[.pointer (some ⟨q, 0, none⟩), .int .i64 (n : Int)] (w.drewN k) fun r w' => r = .returned (.tuple #[]) ∧ Ws w' x q p b (e + n) G M N B blk fv al bad full (Gk.incs G M K n) ∧ Turns (Own3 q p b) w w' := by
  have t : Turns (fun _ => False) w (w.drewN k) := (Turns.refl _ w).drewN k
  refine ((s.quiet t).incs n hn he).mono ?_
  rintro r w' ⟨h1, h2, h3⟩
  exact ⟨h1, h2, (t.mono fun _ _ h => h.elim).then h3 (fun i _ h => h)⟩
set_option maxHeartbeats 2000000 in
set_option maxRecDepth 100000 in
/-- some increments -/
theorem Ws.do6 {w : World} {x q p b : Nat} {e : Int} {G : Geo} {M : Md} {N B : Nat} {blk : Nat → Nat} {fv : Nat → Value} {al : Value} {bad full : Bool} {K : Gk} (s : Ws w x q p b e G M N B blk fv al bad full K) (he : e + 300 ≤ 1000000000) (k0 a0 b0 c0 n : Int) (hk : k0 = 6) :
    Calls Tryd.prog 7 #[.pointer (some ⟨x, 0, none⟩), .agg #[.int .i64 k0, .int .i64 a0, .int .i64 b0, .int .i64 c0, .int .i64 n]] w fun r w' => r = .returned (.tuple #[]) ∧ Ws w' x q p b (e + (min (max n 0) 300).toNat) G M N B blk fv al bad full (Gk.incs G M K (min (max n 0) 300).toNat) ∧ Turns (Own3 q p b) w w' := by
  have RA := Lib.hid (fun w1 => reg_any a0 w1)
  have RB := Lib.hid (fun w1 => reg_any b0 w1)
  have RC := Lib.hid (fun w1 => reg_any c0 w1)
  generalize a0 % 18446744073709551616 % 8 = ra at *
  generalize b0 % 18446744073709551616 % 8 = rb at *
  generalize c0 % 18446744073709551616 % 8 = rc at *
  subst hk
  have t1 := (Turns.refl (fun _ => False) w).alloc (.cells #[.int .i64 6, .int .i64 a0, .int .i64 b0, .int .i64 c0, .int .i64 n] 31)
  have s1 := s.quiet t1
  have hxb := Lies.made w 31 #[.int .i64 6, .int .i64 a0, .int .i64 b0, .int .i64 c0, .int .i64 n]
  have hh := s1.cells.cell 0
  have hh' : (wcells q blk M.reg al bad full)[0]? = some (.pointer (some ⟨q, 0, none⟩)) := rfl
  rw [hh'] at hh
  have o0 := (hxb.cell 0).trans (show _ = some (Value.int .i64 6) from rfl)
  have o1 := (hxb.cell 1).trans (show _ = some (Value.int .i64 a0) from rfl)
  have o2 := (hxb.cell 2).trans (show _ = some (Value.int .i64 b0) from rfl)
  have o3 := (hxb.cell 3).trans (show _ = some (Value.int .i64 c0) from rfl)
  have o4 := (hxb.cell 4).trans (show _ = some (Value.int .i64 n) from rfl)
  have hS := Lib.hid s1
  obtain ⟨m, hm, hm3, h1, h2⟩ : ∃ m : Nat, (m : Int) = min (max n 0) 300 ∧ m ≤ 300 ∧ ((n < 0) = True ∧ (m : Int) = 0 ∨ (n < 0) = False ∧ (300 < n) = True ∧ (m : Int) = 300 ∨ (n < 0) = False ∧ (300 < n) = False ∧ (m : Int) = n) ∧ (min (max n 0) 300).toNat = m := by
    refine ⟨(min (max n 0) 300).toNat, by omega, by omega, ?_, rfl⟩
    by_cases c1 : n < 0
    · exact .inl ⟨eq_true c1, by omega⟩
    · by_cases c2 : 300 < n
      · exact .inr (.inl ⟨eq_false c1, eq_true c2, by omega⟩)
      · exact .inr (.inr ⟨eq_false c1, eq_false c2, by omega⟩)
  rw [h2]
  have II := Lib.hid (fun j (hj : j = (m : Int)) => hj ▸ s1.quiet_incs m (by omega) (by omega))
  clear hm h2 hm3 he
  have hT := Lib.hid t1
  clear s s1 t1 hxb hh'
  go_enter Tryd.func7, Tryd.ntmps7
  go_wp2_with (fail)
  generalize w.alloc (.cells #[.int .i64 6, .int .i64 a0, .int .i64 b0, .int .i64 c0, .int .i64 n] 31) = w1 at *
  generalize w.heap.size = g at *
  go_quiet ((go_at_call 20; first | exact quiet_do (RA.out _) | exact quiet_do (RB.out _) | exact quiet_do (RC.out _)))
  have hM := Lib.hid h1
  clear h1
  go_wp2_with (fail)
  rcases hM.out with ⟨d1, d3⟩ | ⟨d1, d2, d3⟩ | ⟨d1, d2, d3⟩
  · clear hM
    go_region_with (go_at_call 15; refine (II.out _ d3.symm _).mono ?_; rintro r w2 ⟨rfl, s2, t2⟩)
    all_goals go_wp2_with (fail)
    all_goals go_end0
    all_goals exact ⟨rfl, by first | exact s2 | (rw [d3]; exact s2) | (rw [← d3] at s2; exact s2), (hT.out.mono fun _ _ h => h.elim).then t2 (fun i _ h => h)⟩
  · clear hM
    go_region_with (go_at_call 15; refine (II.out _ d3.symm _).mono ?_; rintro r w2 ⟨rfl, s2, t2⟩)
    all_goals go_wp2_with (fail)
    all_goals go_end0
    all_goals exact ⟨rfl, by first | exact s2 | (rw [d3]; exact s2) | (rw [← d3] at s2; exact s2), (hT.out.mono fun _ _ h => h.elim).then t2 (fun i _ h => h)⟩
  · clear hM
    go_region_with (go_at_call 15; refine (II.out _ d3.symm _).mono ?_; rintro r w2 ⟨rfl, s2, t2⟩)
    all_goals go_wp2_with (fail)
    all_goals go_end0
    all_goals exact ⟨rfl, by first | exact s2 | (rw [d3]; exact s2) | (rw [← d3] at s2; exact s2), (hT.out.mono fun _ _ h => h.elim).then t2 (fun i _ h => h)⟩
end Go.Proofs.YtclcnepkgjcmcaaDoor
