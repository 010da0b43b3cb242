/- The laws' own world: made of a weak thing, whether a cell is free or not. -/
import Derived.Test.YtclcnepkgjcmcaaDoorQ41
import Derived.Test.YtclcnepkgjcmcaaDoorQ42
import Derived.Test.YtclcnepkgjcmcaaDoorQ32
import Derived.Test.YtclcnepkgjcmcaaDoorQ33
import Derived.Test.YtclcnepkgjcmcaaDoorQ34
import Derived.Test.YtclcnepkgjcmcaaDoorQ35
import Derived.Test.YtclcnepkgjcmcaaDoorQ36
namespace Go.Proofs.YtclcnepkgjcmcaaDoor
open Go.RowKit

/-- the two that are given -/
def two (a c : V) (j : Nat) : V := if j = 0 then a else c
/-- behind 'made' of two fields -/
def Made7 (w : World) (x q p b : Nat) (e : Int) (G : Geo) (M : Md) (N B : Nat) (al : Value) (full : Bool) (K : Gk) (r : Nat) (v0 v1 : V) : Prop :=
  (∃ blk fv, Ws w x q p b (e + G.k.toNat) G M N B blk fv al false true ((Gk.incs G M K G.k.toNat).full 2)) ∨
  (∃ (c : Int) (blk : Nat → Nat) (fv : Nat → Value) (al' : Value), Ws w x q p b (e + G.k.toNat) G ((setn (M.add N 3 2 c) N (two v0 v1) 2).setReg r (.t N)) (N + 1) B blk fv al' false full (Gk.take G M 3 2 N (Gk.incs G M K G.k.toNat)).quiet)
theorem Ws.made7 {w : World} {x q p b : Nat} {e : Int} {G : Geo} {M : Md} {N B : Nat} {blk : Nat → Nat} {fv : Nat → Value} {al : Value} {full : Bool} {K : Gk} (s : Ws w x q p b e G M N B blk fv al false full K) (hN : N ≤ 100000) (hxg : x ≠ 0) (r : Nat) (hr : r < 8) (v0 v1 : V) (h0 : v0.ok ∧ v0.Has (Reach M)) (h1 : v1.ok ∧ v1.Has (Reach M)) (gF cF : Nat) (hgB : B ≤ gF) (hgF : Lies w gF 39 [vw v0, vp blk v0, vw v1, vp blk v1]) (he : e + G.k ≤ 1000000000) :
    Calls Tryd.prog 21 #[.pointer (some ⟨x, 0, none⟩), .int .i64 r, .int .i64 3, .int .i64 2, .slice (some ⟨gF, 0, none⟩) 2 cF] w fun o w' => o = .returned (.tuple #[]) ∧ Made7 w' x q p b e G M N B al full K r v0 v1 ∧ Turns (DoT w x q p b B) w w' := by
  rcases s.alloc 3 2 (by omega) (by omega) (by omega) (fun _ => rfl) he with AL | ⟨c, hne, AL⟩
  · refine (s.made_no hxg r 3 2 (some ⟨gF, 0, none⟩) 2 cF AL).mono ?_
    rintro o w' ⟨a1, a2, a3⟩
    exact ⟨a1, .inl ⟨blk, fv, a2⟩, a3⟩
  · have hv : ∀ j, j < 2 → (two v0 v1 j).ok ∧ (two v0 v1 j).Has (Reach M) := fun j hj => by
      unfold two
      split
      · exact h0
      · exact h1
    refine (s.made3 hN hxg r hr (two v0 v1) (fun j hj => (hv j hj).1) (fun j hj => (hv j hj).2) (fun j hj => V.Has.mono (fun i => s.things.reach) (hv j hj).2) gF cF hgB hgF 3 rfl 2 rfl c hne AL).mono ?_
    rintro o w' ⟨a1, ⟨blk', fv', al', a2⟩, a3⟩
    exact ⟨a1, .inr ⟨c, blk', fv', al', a2⟩, a3⟩
end Go.Proofs.YtclcnepkgjcmcaaDoor

/- The laws' own world: do, its kind 7. -/
namespace Go.Proofs.YtclcnepkgjcmcaaDoor
open Go.RowKit

set_option maxHeartbeats 2000000 in
set_option maxRecDepth 100000 in
/-- a register is a new weak thing -/
theorem Ws.do7 {w : World} {x q p b : Nat} {e : Int} {G : Geo} {M : Md} {N B : Nat} {blk : Nat → Nat} {fv : Nat → Value} {al : Value} {full : Bool} {K : Gk} (s : Ws w x q p b e G M N B blk fv al false full K) (hxg : x ≠ 0) (hN : N ≤ 100000) (he : e + G.k ≤ 1000000000) (k0 a0 b0 c0 n : Int) (hk : k0 = 7) :
    Calls Tryd.prog 7 #[.pointer (some ⟨x, 0, none⟩), .agg #[.int .i64 k0, .int .i64 a0, .int .i64 b0, .int .i64 c0, .int .i64 n]] w fun r w' => r = .returned (.tuple #[]) ∧ Made7 w' x q p b e G M N B al full K (rgn a0) (M.reg (rgn b0)) (M.reg (rgn c0)) ∧ Turns (DoT w x q p b B) w w' := by
  have RA := Lib.hid (fun w1 => reg_any a0 w1)
  have RB := Lib.hid (fun w1 => reg_any b0 w1)
  have RC := Lib.hid (fun w1 => reg_any c0 w1)
  obtain ⟨ea, ha⟩ := rgn_eq a0
  obtain ⟨eb, hb⟩ := rgn_eq b0
  obtain ⟨ec, hc⟩ := rgn_eq c0
  rw [ea] at RA
  rw [eb] at RB
  rw [ec] at RC
  generalize rgn a0 = ra at *
  generalize rgn b0 = rb at *
  generalize rgn c0 = rc at *
  clear ea eb ec
  subst hk
  have t1 := (Turns.refl (fun _ => False) w).alloc (.cells #[.int .i64 7, .int .i64 a0, .int .i64 b0, .int .i64 c0, .int .i64 n] 31)
  have s1 := s.quiet t1
  have hxb := Lies.made w 31 #[.int .i64 7, .int .i64 a0, .int .i64 b0, .int .i64 c0, .int .i64 n]
  have hh := s1.cells.cell 0
  have hh' : (wcells q blk M.reg al false full)[0]? = some (.pointer (some ⟨q, 0, none⟩)) := rfl
  rw [hh'] at hh
  have o0 := (hxb.cell 0).trans (show _ = some (Value.int .i64 7) from rfl)
  have o1 := (hxb.cell 1).trans (show _ = some (Value.int .i64 a0) from rfl)
  have o2 := (hxb.cell 2).trans (show _ = some (Value.int .i64 b0) from rfl)
  have o3 := (hxb.cell 3).trans (show _ = some (Value.int .i64 c0) from rfl)
  have o4 := (hxb.cell 4).trans (show _ = some (Value.int .i64 n) from rfl)
  have b0' : (0 : Int) ≤ (rb : Int) := by omega
  have b8' : (rb : Int) < 8 := by omega
  have a0' : (0 : Int) ≤ (ra : Int) := by omega
  have a8' : (ra : Int) < 8 := by omega
  have c0' : (0 : Int) ≤ (rc : Int) := by omega
  have c8' : (rc : Int) < 8 := by omega
  have c1 := (s1.cells.cell (1 + rb * 2)).trans (wcells_at q blk M.reg al false full rb hb).1
  have c2 := (s1.cells.cell (1 + rb * 2 + 1)).trans (wcells_at q blk M.reg al false full rb hb).2
  have c3 := (s1.cells.cell (1 + rc * 2)).trans (wcells_at q blk M.reg al false full rc hc).1
  have c4 := (s1.cells.cell (1 + rc * 2 + 1)).trans (wcells_at q blk M.reg al false full rc hc).2
  have vb := s1.regok hb
  have vc := s1.regok hc
  have MD := Lib.hid (fun gF w' (h : Ws w' x q p b e G M N B blk fv al false full K) (hg : B ≤ gF) (hF : Lies w' gF 39 [vw (M.reg rb), vp blk (M.reg rb), vw (M.reg rc), vp blk (M.reg rc)]) => h.made7 hN hxg ra ha (M.reg rb) (M.reg rc) vb vc gF 2 hg hF he)
  have HS := Lib.hid s1
  have hT := Lib.hid t1
  have hsz := s1.sz
  obtain ⟨y1, e1⟩ : ∃ y, vw (M.reg rb) = .int .u64 y := by cases M.reg rb <;> exact ⟨_, rfl⟩
  obtain ⟨P1, e2⟩ : ∃ P, vp blk (M.reg rb) = .pointer P := by cases M.reg rb <;> exact ⟨_, rfl⟩
  obtain ⟨y2, e3⟩ : ∃ y, vw (M.reg rc) = .int .u64 y := by cases M.reg rc <;> exact ⟨_, rfl⟩
  obtain ⟨P2, e4⟩ : ∃ P, vp blk (M.reg rc) = .pointer P := by cases M.reg rc <;> exact ⟨_, rfl⟩
  rw [e1] at c1 MD
  rw [e2] at c2 MD
  rw [e3] at c3 MD
  rw [e4] at c4 MD
  clear e1 e2 e3 e4 vb vc
  clear s s1 t1 hxb hh'
  go_enter Tryd.func7, Tryd.ntmps7
  go_wp2_with (fail)
  generalize w.alloc (.cells #[.int .i64 7, .int .i64 a0, .int .i64 b0, .int .i64 c0, .int .i64 n] 31) = w1 at *
  generalize w.heap.size = g at *
  go_quiet ((go_at_call 20; first | exact quiet_do (RA.out _) | exact quiet_do (RB.out _) | exact quiet_do (RC.out _)))
  go_wp2_with fail
  generalize hW2 : World.drewN _ _ = W2
  have T2 : Turns (fun _ => False) w W2 := hW2 ▸ hT.out.drewN _
  have s2 := HS.out.quiet (hW2 ▸ ((Turns.refl (fun _ => False) _).drewN _))
  have hsz2 := s2.sz
  have hw2 : w1.cell? = W2.cell? := hW2 ▸ rfl
  rw [hw2] at hh c1 c2 c3 c4
  have S2 := Lib.hid s2
  clear hW2 s2 o0 o1 o2 o3 o4 hw2
  go_region_with (
    go_at_call 21
    first
      | refine (MD.out _ _ (S2.out.quiet ((Turns.refl (fun _ => False) W2).alloc _)) hsz2 (Lies.made W2 39 #[.int .u64 y1, .pointer P1, .int .u64 y2, .pointer P2])).mono ?_
      | refine (MD.out _ _ (S2.out.quiet (((Turns.refl (fun _ => False) W2).alloc _).drew)) hsz2 (Lies.made W2 39 #[.int .u64 y1, .pointer P1, .int .u64 y2, .pointer P2]).drew).mono ?_
      | refine (MD.out _ _ (S2.out.quiet (((Turns.refl (fun _ => False) W2).drew).alloc _)) hsz2 (Lies.made W2.drew 39 #[.int .u64 y1, .pointer P1, .int .u64 y2, .pointer P2])).mono ?_
    rintro r w3 ⟨rfl, s3, t3⟩)
  all_goals go_wp2_with fail
  all_goals go_end0
  all_goals exact ⟨rfl, s3, by
    first
      | exact DoT.then_ (T2.alloc _) t3
      | exact DoT.then_ ((T2.alloc _).drew) t3
      | exact DoT.then_ ((T2.drew).alloc _) t3⟩
end Go.Proofs.YtclcnepkgjcmcaaDoor

/- The laws' own world: do, what is none of its kinds. -/
namespace Go.Proofs.YtclcnepkgjcmcaaDoor
open Go.RowKit

set_option maxHeartbeats 2000000 in
set_option maxRecDepth 100000 in
/-- what is no doing -/
theorem Ws.do0 {w : World} {x q p b : Nat} {e : Int} {G : Geo} {M : Md} {N B : Nat} {blk : Nat → Nat} {fv : Nat → Value} {al : Value} {full : Bool} {K : Gk} (s : Ws w x q p b e G M N B blk fv al false full K) (_hxg : x ≠ 0) (k0 a0 b0 c0 n : Int) (h1 : k0 ≠ 1) (h2 : k0 ≠ 2) (h3 : k0 ≠ 3) (h4 : k0 ≠ 4) (h5 : k0 ≠ 5) (h6 : k0 ≠ 6) (h7 : k0 ≠ 7) (h8 : k0 ≠ 8) :
    Calls Tryd.prog 7 #[.pointer (some ⟨x, 0, none⟩), .agg #[.int .i64 k0, .int .i64 a0, .int .i64 b0, .int .i64 c0, .int .i64 n]] w fun r w' => r = .returned (.tuple #[]) ∧ Ws w' x q p b e G M N B blk fv al false full K.quiet ∧ Turns (DoT w x q p b B) w w' := by
  have RA := Lib.hid (fun w1 => reg_any a0 w1)
  have RB := Lib.hid (fun w1 => reg_any b0 w1)
  have RC := Lib.hid (fun w1 => reg_any c0 w1)
  obtain ⟨ea, ha⟩ := rgn_eq a0
  obtain ⟨eb, hb⟩ := rgn_eq b0
  obtain ⟨ec, hc⟩ := rgn_eq c0
  rw [ea] at RA
  rw [eb] at RB
  rw [ec] at RC
  generalize rgn a0 = ra at *
  generalize rgn b0 = rb at *
  generalize rgn c0 = rc at *
  clear ea eb ec
  have t1 := (Turns.refl (fun _ => False) w).alloc (.cells #[.int .i64 k0, .int .i64 a0, .int .i64 b0, .int .i64 c0, .int .i64 n] 31)
  have s1 := s.quiet t1
  have hxb := Lies.made w 31 #[.int .i64 k0, .int .i64 a0, .int .i64 b0, .int .i64 c0, .int .i64 n]
  have hh := s1.cells.cell 0
  have hh' : (wcells q blk M.reg al false full)[0]? = some (.pointer (some ⟨q, 0, none⟩)) := rfl
  rw [hh'] at hh
  have o0 := (hxb.cell 0).trans (show _ = some (Value.int .i64 k0) from rfl)
  have o1 := (hxb.cell 1).trans (show _ = some (Value.int .i64 a0) from rfl)
  have o2 := (hxb.cell 2).trans (show _ = some (Value.int .i64 b0) from rfl)
  have o3 := (hxb.cell 3).trans (show _ = some (Value.int .i64 c0) from rfl)
  have o4 := (hxb.cell 4).trans (show _ = some (Value.int .i64 n) from rfl)
  have b0' : (0 : Int) ≤ (rb : Int) := by omega
  have b8' : (rb : Int) < 8 := by omega
  have a0' : (0 : Int) ≤ (ra : Int) := by omega
  have a8' : (ra : Int) < 8 := by omega
  have e1 : (k0 == 1) = false := by simpa using h1
  have e2 : (k0 == 2) = false := by simpa using h2
  have e3 : (k0 == 3) = false := by simpa using h3
  have e4 : (k0 == 4) = false := by simpa using h4
  have e5 : (k0 == 5) = false := by simpa using h5
  have e6 : (k0 == 6) = false := by simpa using h6
  have e7 : (k0 == 7) = false := by simpa using h7
  have e8 : (k0 == 8) = false := by simpa using h8
  have SR := Lib.hid (fun k => (s1.quiet ((Turns.refl (fun _ => False) _).drewN k)).weaken (fun _ _ _ _ h => Gk.refl h))
  have hT := Lib.hid t1
  clear h1 h2 h3 h4 h5 h6 h7 h8
  clear s s1 t1 hxb hh'
  go_enter Tryd.func7, Tryd.ntmps7
  go_wp2_with (fail)
  generalize w.alloc (.cells #[.int .i64 k0, .int .i64 a0, .int .i64 b0, .int .i64 c0, .int .i64 n] 31) = w1 at *
  generalize w.heap.size = g at *
  go_quiet ((go_at_call 20; first | exact quiet_do (RA.out _) | exact quiet_do (RB.out _) | exact quiet_do (RC.out _)))
  go_wp2_with (fail)
  go_end0
  exact ⟨rfl, SR.out _, (hT.out.drewN _).mono fun _ _ h => h.elim⟩
end Go.Proofs.YtclcnepkgjcmcaaDoor

/- The laws' own world: do, whatever is done. -/
namespace Go.Proofs.YtclcnepkgjcmcaaDoor
open Go.RowKit

def Gk.any : Gk := fun _ _ _ _ => True
/-- whatever is done: the law's world stands, and nothing bad was seen -/
theorem Ws.do_any {w : World} {x q p b : Nat} {e : Int} {G : Geo} {M : Md} {N B : Nat} {blk : Nat → Nat} {fv : Nat → Value} {al : Value} {full : Bool} (s : Ws w x q p b e G M N B blk fv al false full Gk.any) (hxg : x ≠ 0) (hN : N ≤ 1000) (he : e ≤ 900000000) (k0 a0 b0 c0 n : Int) :
    Calls Tryd.prog 7 #[.pointer (some ⟨x, 0, none⟩), .agg #[.int .i64 k0, .int .i64 a0, .int .i64 b0, .int .i64 c0, .int .i64 n]] w fun r w' => r = .returned (.tuple #[]) ∧
      (∃ e' M' N' blk' fv' al' full', e' ≤ e + 300 ∧ N' ≤ N + 1 ∧ Ws w' x q p b e' G M' N' B blk' fv' al' false full' Gk.any) ∧ Turns (DoT w x q p b B) w w' := by
  have hk64 : 1 ≤ G.k ∧ G.k ≤ 64 := by
    obtain ⟨H, R, A, D, h, hs, hk⟩ := s.heap
    exact ⟨hs.inv.ok.2.2.2.2.2.2.2.2.1, hs.inv.ok.2.2.2.2.2.2.2.2.2.1⟩
  by_cases h1 : k0 = 1
  · refine (s.do1 hxg (by omega) (by omega) k0 a0 b0 c0 n h1).mono ?_
    rintro r w' ⟨a1, a2 | ⟨c, blk', fv', al', -, a2⟩, a3⟩
    · obtain ⟨blk', fv', -, a2⟩ := a2
      exact ⟨a1, ⟨_, _, _, _, _, _, _, by omega, by omega, a2.weaken fun _ _ _ _ _ => trivial⟩, a3⟩
    · exact ⟨a1, ⟨_, _, _, _, _, _, _, by omega, Nat.le_refl _, a2.weaken fun _ _ _ _ _ => trivial⟩, a3⟩
  by_cases h2 : k0 = 2
  · refine (s.do2 hxg k0 a0 b0 c0 n h2).mono ?_
    rintro r w' ⟨a1, a2, a3⟩
    exact ⟨a1, ⟨_, _, _, _, _, _, _, by omega, by omega, a2.weaken fun _ _ _ _ _ => trivial⟩, a3⟩
  by_cases h3 : k0 = 3
  · refine (s.do3 hxg k0 a0 b0 c0 n h3).mono ?_
    rintro r w' ⟨a1, a2, a3⟩
    exact ⟨a1, ⟨_, _, _, _, _, _, _, by omega, by omega, a2.weaken fun _ _ _ _ _ => trivial⟩, a3⟩
  by_cases h4 : k0 = 4
  · refine (s.do4 hxg k0 a0 b0 c0 n h4).mono ?_
    rintro r w' ⟨a1, a2, a3⟩
    exact ⟨a1, ⟨_, _, _, _, _, _, _, by omega, by omega, a2.weaken fun _ _ _ _ _ => trivial⟩, a3⟩
  by_cases h5 : k0 = 5
  · refine (s.do5 hxg k0 a0 b0 c0 n h5).mono ?_
    rintro r w' ⟨a1, a2, a3⟩
    exact ⟨a1, ⟨_, _, _, _, _, _, _, by omega, by omega, a2.weaken fun _ _ _ _ _ => trivial⟩, a3⟩
  by_cases h6 : k0 = 6
  · refine (s.do6 (by omega) k0 a0 b0 c0 n h6).mono ?_
    rintro r w' ⟨a1, a2, a3⟩
    exact ⟨a1, ⟨_, _, _, _, _, _, _, by omega, by omega, a2.weaken fun _ _ _ _ _ => trivial⟩, a3.mono fun _ _ h => .inl (.inr h)⟩
  by_cases h7 : k0 = 7
  · refine (s.do7 hxg (by omega) (by omega) k0 a0 b0 c0 n h7).mono ?_
    rintro r w' ⟨a1, a2 | ⟨c, blk', fv', al', a2⟩, a3⟩
    · obtain ⟨blk', fv', a2⟩ := a2
      exact ⟨a1, ⟨_, _, _, _, _, _, _, by omega, by omega, a2.weaken fun _ _ _ _ _ => trivial⟩, a3⟩
    · exact ⟨a1, ⟨_, _, _, _, _, _, _, by omega, Nat.le_refl _, a2.weaken fun _ _ _ _ _ => trivial⟩, a3⟩
  by_cases h8 : k0 = 8
  · refine (s.do8 hxg (by omega) (by omega) k0 a0 b0 c0 n h8).mono ?_
    rintro r w' ⟨a1, a2 | ⟨c, blk', fv', al', -, a2⟩, a3⟩
    · obtain ⟨blk', fv', -, a2⟩ := a2
      exact ⟨a1, ⟨_, _, _, _, _, _, _, by omega, by omega, a2.weaken fun _ _ _ _ _ => trivial⟩, a3⟩
    · exact ⟨a1, ⟨_, _, _, _, _, _, _, by omega, Nat.le_refl _, a2.weaken fun _ _ _ _ _ => trivial⟩, a3⟩
  · refine (s.do0 hxg k0 a0 b0 c0 n h1 h2 h3 h4 h5 h6 h7 h8).mono ?_
    rintro r w' ⟨a1, a2, a3⟩
    exact ⟨a1, ⟨_, _, _, _, _, _, _, by omega, by omega, a2.weaken fun _ _ _ _ _ => trivial⟩, a3⟩
end Go.Proofs.YtclcnepkgjcmcaaDoor
