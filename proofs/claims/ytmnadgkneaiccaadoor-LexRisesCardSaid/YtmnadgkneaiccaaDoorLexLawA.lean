/- The law LexAll, walked. -/
import Derived.Test.YtmnadgkneaiccaaDoorLexLawN
import Derived.Test.YtmnadgkneaiccaaDoorLexRefJ
namespace Go.Proofs.YtmnadgkneaiccaaDoor
open Go.ChangeShapes Go.WideShapes Go.ChangeAt Go.RowKit

namespace LM
theorem alls_e : ∀ (f : Nat) (l : List UInt8) (a : Nat) (i j : Int), (alls f l a i j).2 = (0, 0, 0) ∨ (1 ≤ (alls f l a i j).2.1 ∧ (alls f l a i j).2.1 ≤ 20)
  | 0, l, a, i, j => by left; rfl
  | f + 1, l, a, i, j => by
    have he := LM.scn_e (l.drop (LM.skp false l))
    rw [show LM.scn (l.drop (LM.skp false l)) = (LM.nx l i j).t from rfl] at he
    unfold alls
    split
    · rename_i h
      right; simp only; omega
    · split
      · left; rfl
      · simp only
        split
        · rename_i h
          rcases alls_e f (l.drop (nx l i j).len) (a + (nx l i j).len) (mv (l.take (nx l i j).len) i j).1 (mv (l.take (nx l i j).len) i j).2 with h2 | h2
          · rw [h2] at h; simp at h
          · exact .inr h2
        · rename_i h
          rcases alls_e f (l.drop (nx l i j).len) (a + (nx l i j).len) (mv (l.take (nx l i j).len) i j).1 (mv (l.take (nx l i j).len) i j).2 with h2 | h2
          · exact .inl h2
          · exact absurd h (by omega)
theorem alls_len : ∀ (f : Nat) (l : List UInt8) (a : Nat) (i j : Int), (alls f l a i j).1.length ≤ f
  | 0, l, a, i, j => by simp [alls]
  | f + 1, l, a, i, j => by
    have ih := alls_len f (l.drop (nx l i j).len) (a + (nx l i j).len) (mv (l.take (nx l i j).len) i j).1 (mv (l.take (nx l i j).len) i j).2
    unfold alls
    split
    · simp
    · split
      · simp
      · simp only
        split
        · simp
        · simp; omega
end LM

theorem lexAll_long (s : ByteArray) (hs : 32768 < s.size) (w : World) (hT : ETab w) :
    Calls Tryd.prog 4 #[.string s] w fun e w' => e = .returned (.bool true) ∧ Went w w' := by
  have h1 : ∀ w1, Went w w1 → ETab w1 := fun w1 h => hT.on h
  go_enter Tryd.func4, Tryd.ntmps4
  go_wp2_with (first
    | (go_at_call 9; (with_reducible refine (awake_any _ hT).mono ?_); rintro e w1 ⟨rfl, hb1⟩)
    | (go_at_call 9; (with_reducible refine (awake_any _ (h1 _ hb1)).mono ?_); rintro e w2 ⟨rfl, hb2⟩))
  go_ret
  exact ⟨rfl, hb1.trans hb2⟩

set_option maxRecDepth 100000 in
set_option maxHeartbeats 4000000 in
/-- the law, by what the two calls and Fault give -/
theorem lexAll_by (s : ByteArray) (hs : s.size ≤ 32768) (w : World) (hT : ETab w) (l : List LM.Tv) (hl : l.length ≤ 100000) (ev : Value) (f0 f1 f2 : Int)
    (hN : ∀ w, Calls Tryd.prog 13 #[.string s] w fun e w' => ∃ v', e = .returned (.tuple #[v', ev]) ∧ OwnT w' w.heap.size v' l ∧ Went w w')
    (hR : ∀ w, Calls Tryd.prog 14 #[.string s] w fun e w' => ∃ v', e = .returned (.tuple #[v', .agg #[.int .i64 f0, .int .i64 f1, .int .i64 f2]]) ∧ OwnT w' w.heap.size v' l ∧ Went w w')
    (hF : ∀ w, ETab w → Calls Tryd.prog 12 #[ev] w fun e w' => e = .returned (.agg #[.int .i64 f0, .int .i64 f1, .int .i64 f2]) ∧ Went w w') :
    Calls Tryd.prog 4 #[.string s] w fun e w' => e = .returned (.bool true) ∧ Went w w' := by
  have dN := Lib.hid hN
  have dR := Lib.hid hR
  have dF := Lib.hid hF
  have ef1 := eql_fault f0 f1 f2
  clear hN hR hF
  go_enter Tryd.func4, Tryd.ntmps4
  go_wp2_with (first
    | (go_at_call 9; refine (awake_any _ hT).mono ?_; rintro e w1 ⟨rfl, hb1⟩)
    | (go_at_call 13; refine (dN.out _).mono ?_; rintro e w2 ⟨v1, rfl, ho1, hb2⟩)
    | (go_at_call 14
       refine (dR.out _).mono ?_
       rintro e w3 ⟨v2, rfl, ho2, hb3⟩
       have ho3 := own_below ho1 hb3
       have hb4 : Went w w3 := (hb1.trans hb2).trans hb3
       clear hb3))
  have hb5 : Went w (w3.alloc (.cells #[.int .i64 f0, .int .i64 f1, .int .i64 f2] 30)) := Below.alloc hb4 hb4.size _
  have o1 : OwnT (w3.alloc (.cells #[.int .i64 f0, .int .i64 f1, .int .i64 f2] 30)) _ v1 l := own_below ho3 ((Below.refl _ _).alloc (Nat.le_refl _) _)
  have o2 : OwnT (w3.alloc (.cells #[.int .i64 f0, .int .i64 f1, .int .i64 f2] 30)) _ v2 l := own_below ho2 ((Below.refl _ _).alloc (Nat.le_refl _) _)
  have hF0 := Lies.made w3 30 #[.int .i64 f0, .int .i64 f1, .int .i64 f2]
  go_region_with (first
    | (go_at_call 15
       refine (Same_yes l hl v1 v2 _ _ _ (by first | exact o1 | exact own_below o1 (below_drewN (Below.refl _ _) 1)) (by first | exact o2 | exact own_below o2 (below_drewN (Below.refl _ _) 1))).mono ?_
       rintro e w5 ⟨rfl, hb6⟩
       have hb7 : Went w w5 := Went.trans hb5 (by first | exact below_of_drew hb6 | exact hb6)
       have hF5 := hF0.drew.below hb6 (by simp)
       have y0 : w5.cell? ⟨w3.heap.size, 0, none⟩ = some (.int .i64 f0) := hF5.cell 0
       have y1 : w5.cell? ⟨w3.heap.size, 1, none⟩ = some (.int .i64 f1) := hF5.cell 1
       have y2 : w5.cell? ⟨w3.heap.size, 2, none⟩ = some (.int .i64 f2) := hF5.cell 2
       clear hb6)
    | (go_at_call 12
       refine (dF.out _ (hT.on (by first | exact hb7 | exact below_drewN hb7 _))).mono ?_
       rintro e w6 ⟨rfl, hb8⟩
       have hb9 : Went w w6 := Went.trans hb7 (by first | exact hb8 | exact below_of_drew hb8)
       have hF6 := hF5.below hb8 hF5.lt
       have z0 : w6.cell? ⟨w3.heap.size, 0, none⟩ = some (.int .i64 f0) := hF6.cell 0
       have z1 : w6.cell? ⟨w3.heap.size, 1, none⟩ = some (.int .i64 f1) := hF6.cell 1
       have z2 : w6.cell? ⟨w3.heap.size, 2, none⟩ = some (.int .i64 f2) := hF6.cell 2
       clear hF6 hb8))
  all_goals
    go_wp2_with fail
    go_ret
    exact ⟨rfl, hb9⟩

theorem lexAll_walk (s : ByteArray) (w : World) (hT : ETab w) :
    Calls Tryd.prog 4 #[.string s] w fun e w' => e = .returned (.bool true) ∧ Below w.heap.size w w' := by
  by_cases hs : 32768 < s.size
  · exact lexAll_long s hs w hT
  by_cases h2 : 16384 < s.size
  · exact lexAll_by s (by omega) w hT [] (by simp) (.iface 49 (.int .i64 14)) 14 0 0 (fun w => (All_long s h2 w).mono fun e w' h => ⟨_, h.1, OwnT.none_ _ _, h.2⟩) (fun w => (rAll_long s h2 w).mono fun e w' h => ⟨_, h.1, OwnT.none_ _ _, h.2⟩) (fun w hT => Fault_kind 14 (by omega) (by omega) w hT)
  · have hN := All_any s (by omega)
    have hR := rAll_any s (by omega)
    have he := LM.alls_e (s.size + 1) s.data.toList 0 1 1
    have hlen := LM.alls_len (s.size + 1) s.data.toList 0 1 1
    generalize LM.alls (s.size + 1) s.data.toList 0 1 1 = R at *
    obtain ⟨l, k, i, j⟩ := R
    rcases he with he | he
    · cases he
      exact lexAll_by s (by omega) w hT l (by simp only at hlen; omega) .nilIface 0 0 0 hN hR (fun w _ => Fault_nil w)
    · simp only at he
      have hN' := hN
      simp only at hN'
      rw [aer_no (show k ≠ 0 by omega)] at hN'
      exact lexAll_by s (by omega) w hT l (by simp only at hlen; omega) _ k i j hN' hR (fun w hT => Fault_at i j k (by omega) (by omega) w hT)
end Go.Proofs.YtmnadgkneaiccaaDoor
