/- The laws' own world: made, whether a cell is free or not, of no fields that are given. -/
import Derived.Test.YtclcnepkgjcmcaaDoorQ40
namespace Go.Proofs.YtclcnepkgjcmcaaDoor
open Go.RowKit

/-- behind 'made' of no fields: the thing is there, in its register, or no cell was free -/
def Made (w : World) (x q p b : Nat) (e : Int) (G : Geo) (M : Md) (N B : Nat) (blk0 : Nat → Nat) (al : Value) (full : Bool) (K : Gk) (r : Nat) (f : Int) (n : Nat) : Prop :=
  (∃ blk fv, (∀ i, i < N → blk i = blk0 i) ∧ Ws w x q p b (e + G.k.toNat) G M N B blk fv al false true ((Gk.incs G M K G.k.toNat).full n)) ∨
  (∃ (c : Int) (blk : Nat → Nat) (fv : Nat → Value) (al' : Value), (∀ i, i < N → blk i = blk0 i) ∧ Ws w x q p b (e + G.k.toNat) G ((M.add N f n c).setReg r (.t N)) (N + 1) B blk fv al' false full (Gk.take G M f n N (Gk.incs G M K G.k.toNat)).quiet)
theorem Ws.made8 {w : World} {x q p b : Nat} {e : Int} {G : Geo} {M : Md} {N B : Nat} {blk : Nat → Nat} {fv : Nat → Value} {al : Value} {full : Bool} {K : Gk} (s : Ws w x q p b e G M N B blk fv al false full K) (hN : N ≤ 100000) (hxg : x ≠ 0) (r : Nat) (hr : r < 8) (f : Int) (f0 : 1 ≤ f) (f1 : f ≤ 3) (f3 : f ≠ 3) (n : Nat) (hn : n < 128) (he : e + G.k ≤ 1000000000) :
    Calls Tryd.prog 21 #[.pointer (some ⟨x, 0, none⟩), .int .i64 r, .int .i64 f, .int .i64 n, .slice none 0 0] w fun o w' => o = .returned (.tuple #[]) ∧ Made w' x q p b e G M N B blk al full K r f n ∧ Turns (DoT w x q p b B) w w' := by
  rcases s.alloc f n f0 f1 hn (fun e => absurd e f3) he with AL | ⟨c, hne, AL⟩
  · refine (s.made_no hxg r f n none 0 0 AL).mono ?_
    rintro o w' ⟨h1, h2, h3⟩
    exact ⟨h1, .inl ⟨blk, fv, fun _ _ => rfl, h2⟩, h3⟩
  · refine (s.made1 hN hxg r hr f f3 n (by omega) c hne AL).mono ?_
    rintro o w' ⟨h1, ⟨blk', fv', al', hb, h2⟩, h3⟩
    exact ⟨h1, .inr ⟨c, blk', fv', al', hb, h2⟩, h3⟩
end Go.Proofs.YtclcnepkgjcmcaaDoor

/- The laws' own world: do, its kinds 1 and 8. -/
namespace Go.Proofs.YtclcnepkgjcmcaaDoor
open Go.RowKit

set_option maxHeartbeats 2000000 in
set_option maxRecDepth 100000 in
/-- a register is a new plain thing -/
theorem Ws.do1 {w : World} {x q p b : Nat} {e : Int} {G : Geo} {M : Md} {N B : Nat} {blk : Nat → Nat} {fv : Nat → Value} {al : Value} {full : Bool} {K : Gk} (s : Ws w x q p b e G M N B blk fv al false full K) (hxg : x ≠ 0) (hN : N ≤ 100000) (he : e + G.k ≤ 1000000000) (k0 a0 b0 c0 n : Int) (hk : k0 = 1) :
    Calls Tryd.prog 7 #[.pointer (some ⟨x, 0, none⟩), .agg #[.int .i64 k0, .int .i64 a0, .int .i64 b0, .int .i64 c0, .int .i64 n]] w fun r w' => r = .returned (.tuple #[]) ∧ Made w' x q p b e G M N B blk al full K (rgn a0) 1 (n % 18446744073709551616 % 128).toNat ∧ Turns (DoT w x q p b B) w w' := by
  have RA := Lib.hid (fun w1 => reg_any a0 w1)
  have RB := Lib.hid (fun w1 => reg_any b0 w1)
  have RC := Lib.hid (fun w1 => reg_any c0 w1)
  obtain ⟨ea, ha⟩ := rgn_eq a0
  obtain ⟨eb, hb⟩ := rgn_eq b0
  obtain ⟨ec, hc⟩ := rgn_eq c0
  rw [ea] at RA
  rw [eb] at RB
  rw [ec] at RC
  generalize rgn a0 = ra at *
  generalize rgn b0 = rb at *
  generalize rgn c0 = rc at *
  clear ea eb ec
  subst hk
  have t1 := (Turns.refl (fun _ => False) w).alloc (.cells #[.int .i64 1, .int .i64 a0, .int .i64 b0, .int .i64 c0, .int .i64 n] 31)
  have s1 := s.quiet t1
  have hxb := Lies.made w 31 #[.int .i64 1, .int .i64 a0, .int .i64 b0, .int .i64 c0, .int .i64 n]
  have hh := s1.cells.cell 0
  have hh' : (wcells q blk M.reg al false full)[0]? = some (.pointer (some ⟨q, 0, none⟩)) := rfl
  rw [hh'] at hh
  have o0 := (hxb.cell 0).trans (show _ = some (Value.int .i64 1) from rfl)
  have o1 := (hxb.cell 1).trans (show _ = some (Value.int .i64 a0) from rfl)
  have o2 := (hxb.cell 2).trans (show _ = some (Value.int .i64 b0) from rfl)
  have o3 := (hxb.cell 3).trans (show _ = some (Value.int .i64 c0) from rfl)
  have o4 := (hxb.cell 4).trans (show _ = some (Value.int .i64 n) from rfl)
  have b0' : (0 : Int) ≤ (rb : Int) := by omega
  have b8' : (rb : Int) < 8 := by omega
  have a0' : (0 : Int) ≤ (ra : Int) := by omega
  have a8' : (ra : Int) < 8 := by omega
  have hu : wrap64 ((IntKind.u64.wrap n).tmod 128) = ((n % 18446744073709551616 % 128).toNat : Int) := u_mod n (l := 128) (by omega) (by omega)
  have hul : (n % 18446744073709551616 % 128).toNat < 128 := u_modl n (l := 128) (by omega)
  generalize (n % 18446744073709551616 % 128).toNat = nn at *
  have MD := Lib.hid (fun k w' (h : w' = ((w.alloc (.cells #[.int .i64 1, .int .i64 a0, .int .i64 b0, .int .i64 c0, .int .i64 n] 31))).drewN k) => (h ▸ s1.quiet ((Turns.refl (fun _ => False) _).drewN k)).made8 hN hxg ra ha 1 (by omega) (by omega) (by omega) nn hul he)
  have hT := Lib.hid t1
  clear s s1 t1 hxb hh'
  go_enter Tryd.func7, Tryd.ntmps7
  go_wp2_with (fail)
  generalize w.alloc (.cells #[.int .i64 1, .int .i64 a0, .int .i64 b0, .int .i64 c0, .int .i64 n] 31) = w1 at *
  generalize w.heap.size = g at *
  go_quiet ((go_at_call 20; first | exact quiet_do (RA.out _) | exact quiet_do (RB.out _) | exact quiet_do (RC.out _)))
  go_wp2_with (
    go_at_call 21
    refine (MD.out _ _ rfl).mono ?_
    rintro r w2 ⟨rfl, s2, t2⟩)
  go_end0
  exact ⟨rfl, s2, DoT.then_ (hT.out.drewN _) t2⟩
set_option maxHeartbeats 2000000 in
set_option maxRecDepth 100000 in
/-- a register is a new raw thing -/
theorem Ws.do8 {w : World} {x q p b : Nat} {e : Int} {G : Geo} {M : Md} {N B : Nat} {blk : Nat → Nat} {fv : Nat → Value} {al : Value} {full : Bool} {K : Gk} (s : Ws w x q p b e G M N B blk fv al false full K) (hxg : x ≠ 0) (hN : N ≤ 100000) (he : e + G.k ≤ 1000000000) (k0 a0 b0 c0 n : Int) (hk : k0 = 8) :
    Calls Tryd.prog 7 #[.pointer (some ⟨x, 0, none⟩), .agg #[.int .i64 k0, .int .i64 a0, .int .i64 b0, .int .i64 c0, .int .i64 n]] w fun r w' => r = .returned (.tuple #[]) ∧ Made w' x q p b e G M N B blk al full K (rgn a0) 2 (n % 18446744073709551616 % 128).toNat ∧ Turns (DoT w x q p b B) w w' := by
  have RA := Lib.hid (fun w1 => reg_any a0 w1)
  have RB := Lib.hid (fun w1 => reg_any b0 w1)
  have RC := Lib.hid (fun w1 => reg_any c0 w1)
  obtain ⟨ea, ha⟩ := rgn_eq a0
  obtain ⟨eb, hb⟩ := rgn_eq b0
  obtain ⟨ec, hc⟩ := rgn_eq c0
  rw [ea] at RA
  rw [eb] at RB
  rw [ec] at RC
  generalize rgn a0 = ra at *
  generalize rgn b0 = rb at *
  generalize rgn c0 = rc at *
  clear ea eb ec
  subst hk
  have t1 := (Turns.refl (fun _ => False) w).alloc (.cells #[.int .i64 8, .int .i64 a0, .int .i64 b0, .int .i64 c0, .int .i64 n] 31)
  have s1 := s.quiet t1
  have hxb := Lies.made w 31 #[.int .i64 8, .int .i64 a0, .int .i64 b0, .int .i64 c0, .int .i64 n]
  have hh := s1.cells.cell 0
  have hh' : (wcells q blk M.reg al false full)[0]? = some (.pointer (some ⟨q, 0, none⟩)) := rfl
  rw [hh'] at hh
  have o0 := (hxb.cell 0).trans (show _ = some (Value.int .i64 8) from rfl)
  have o1 := (hxb.cell 1).trans (show _ = some (Value.int .i64 a0) from rfl)
  have o2 := (hxb.cell 2).trans (show _ = some (Value.int .i64 b0) from rfl)
  have o3 := (hxb.cell 3).trans (show _ = some (Value.int .i64 c0) from rfl)
  have o4 := (hxb.cell 4).trans (show _ = some (Value.int .i64 n) from rfl)
  have b0' : (0 : Int) ≤ (rb : Int) := by omega
  have b8' : (rb : Int) < 8 := by omega
  have a0' : (0 : Int) ≤ (ra : Int) := by omega
  have a8' : (ra : Int) < 8 := by omega
  have hu : wrap64 ((IntKind.u64.wrap n).tmod 128) = ((n % 18446744073709551616 % 128).toNat : Int) := u_mod n (l := 128) (by omega) (by omega)
  have hul : (n % 18446744073709551616 % 128).toNat < 128 := u_modl n (l := 128) (by omega)
  generalize (n % 18446744073709551616 % 128).toNat = nn at *
  have MD := Lib.hid (fun k w' (h : w' = ((w.alloc (.cells #[.int .i64 8, .int .i64 a0, .int .i64 b0, .int .i64 c0, .int .i64 n] 31))).drewN k) => (h ▸ s1.quiet ((Turns.refl (fun _ => False) _).drewN k)).made8 hN hxg ra ha 2 (by omega) (by omega) (by omega) nn hul he)
  have hT := Lib.hid t1
  clear s s1 t1 hxb hh'
  go_enter Tryd.func7, Tryd.ntmps7
  go_wp2_with (fail)
  generalize w.alloc (.cells #[.int .i64 8, .int .i64 a0, .int .i64 b0, .int .i64 c0, .int .i64 n] 31) = w1 at *
  generalize w.heap.size = g at *
  go_quiet ((go_at_call 20; first | exact quiet_do (RA.out _) | exact quiet_do (RB.out _) | exact quiet_do (RC.out _)))
  go_wp2_with (
    go_at_call 21
    refine (MD.out _ _ rfl).mono ?_
    rintro r w2 ⟨rfl, s2, t2⟩)
  go_end0
  exact ⟨rfl, s2, DoT.then_ (hT.out.drewN _) t2⟩
end Go.Proofs.YtclcnepkgjcmcaaDoor
