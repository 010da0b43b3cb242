/- The laws EnvNil and EnvDeep. -/
import Derived.Test.YtbkjmmeipbbaaaaDoorEnvAwake
import Derived.Test.YtbkjmmeipbbaaaaDoorLaw
namespace Go.Proofs.YtbkjmmeipbbaaaaDoor
open Go.ChangeShapes Go.WideShapes Go.ChangeAt Go.RowKit

theorem eql_mean (i j k l : Int) (w : World) :
    (binOp .eql 24 (.agg #[.int .i64 i, .int .i64 j]) (.agg #[.int .i64 k, .int .i64 l])).run Tryd.prog w = .ok (.bool (decide (i = k ∧ j = l))) w := by
  have u3 := Tryd.underlying3
  have a3 := Tryd.isAgg3
  have hS : Tryd.prog.underlying 24 = some (.struct (Tryd.prog.fieldsOf 24)) := by kernel_rfl
  have hp : Tryd.prog.stoodInHeld 24 = false := by kernel_rfl
  rw [run_eql_struct, show (10000 : Nat) = 9999 + 1 from rfl, run_equalIn_agg w 9999 24 _ _ hS hp]
  simp only [Program.fieldsOf, Tryd.underlying24]
  by_cases h1 : i = k
  · subst h1
    by_cases h2 : j = l
    · subst h2
      go_simp
    · have e2 : (j == l) = false := by simpa using h2
      rw [decide_eq_false (fun h => h2 h.2)]
      go_simp
  · have e1 : (i == k) = false := by simpa using h1
    rw [decide_eq_false (fun h => h1 h.1)]
    go_simp

set_option maxRecDepth 100000 in
set_option maxHeartbeats 4000000 in
theorem envNil_walk (k a b c d mk mn : Int) (x : ByteArray) (w : World) (hM : MTab w) (hT : Tab w) :
    Calls Tryd.prog 4 #[.agg #[.int .i64 k, .int .i64 a, .int .i64 b, .int .i64 c, .int .i64 d, .int .i64 mk, .int .i64 mn, .string x]] w fun e w' => e = .returned (.bool true) ∧ Below w.heap.size w w' := by
  have hA := Lib.hid (fun w' (h : Below w.heap.size w w') => awake_any w' (hM.on h) (hT.on h))
  have c1 := Lib.hid (fun w' => ext_nil a nX mk mn w')
  have c2 := Lib.hid (fun w' => ali_nil a nX w')
  have c3 := Lib.hid (fun w' => find_nil a nX w')
  have c4 := Lib.hid (fun w' => top_nil nX mk mn w')
  have c5 := Lib.hid (fun w' => same_nil 0 0 nX nX w')
  have c6 := Lib.hid (fun w' => strip_nil nX w')
  have hk := Lib.hid (fun w' => kind_one w')
  have hq := fun w => eql_mean 0 0 0 0 w
  rw [decide_eq_true (show (0 : Int) = 0 ∧ (0 : Int) = 0 from ⟨rfl, rfl⟩)] at hq
  rw [er_y (by omega)] at c1 c2 c3 c4
  unfold nX at c1 c2 c3 c4 c5 c6
  simp only [encM] at c3
  have hB := (Below.refl _ w).alloc (Nat.le_refl w.heap.size) (.cells #[.int .i64 k, .int .i64 a, .int .i64 b, .int .i64 c, .int .i64 d, .int .i64 mk, .int .i64 mn, .string x] 26)
  have hL := Lib.hid (Lies.made w 26 #[.int .i64 k, .int .i64 a, .int .i64 b, .int .i64 c, .int .i64 d, .int .i64 mk, .int .i64 mn, .string x])
  have hB' := Lib.hid hB
  clear hM hT hB
  go_enter Tryd.func4, Tryd.ntmps4
  go_wp2_with (first
    | (go_at_call 11; (with_reducible refine (c1.out _).mono ?_); rintro e w2 ⟨rfl, h⟩
       have b2 := Lib.hid (hB'.out.trans (Below.mono h (by simp)))
       have l2 := Lib.hid (hL.out.below h (by simp))
       have q1 : w2.cell? ⟨w.heap.size, 1, none⟩ = some (.int .i64 a) := l2.out.cell 1
       clear h)
    | (go_at_call 13; (with_reducible refine (c2.out _).mono ?_); rintro e w3 ⟨rfl, h⟩
       have b3 := Lib.hid (b2.out.trans (Below.mono h b2.out.size))
       have l3 := Lib.hid (l2.out.below h l2.out.lt)
       have r1 : w3.cell? ⟨w.heap.size, 1, none⟩ = some (.int .i64 a) := l3.out.cell 1
       clear h)
    | (go_at_call 15; (with_reducible refine (c3.out _).mono ?_); rintro e w4 ⟨rfl, h⟩
       have g4 := (Below.refl _ w4).alloc (Nat.le_refl w4.heap.size) (.cells #[.int .i64 0, .int .i64 0] 24)
       have b4 := Lib.hid ((b3.out.trans (Below.mono h b3.out.size)).trans (Below.mono g4 (b3.out.trans (Below.mono h b3.out.size)).size))
       have l4 := Lib.hid ((l3.out.below h l3.out.lt).below g4 (l3.out.below h l3.out.lt).lt)
       have m4 := Lib.hid (Lies.made w4 24 #[.int .i64 0, .int .i64 0])
       clear h g4)
    | (go_at_call 6; (with_reducible refine (hA.out _ b4.out).mono ?_); rintro e w5 ⟨rfl, h⟩
       have b5 := Lib.hid (b4.out.trans (Below.mono h b4.out.size))
       have l5 := Lib.hid (l4.out.below h l4.out.lt)
       have m5 := Lib.hid (m4.out.below h m4.out.lt)
       have s0 : w5.cell? ⟨w4.heap.size, 0, none⟩ = some (.int .i64 0) := m5.out.cell 0
       have s1 : w5.cell? ⟨w4.heap.size, 1, none⟩ = some (.int .i64 0) := m5.out.cell 1
       have bb := Lib.hid (And.intro b5.out l5.out)
       clear h)
    | (go_at_call 18; (with_reducible refine (hk.out _).mono ?_); rintro e w6 ⟨rfl, h⟩
       have bb := Lib.hid (And.intro (bb.out.1.trans (Below.mono h bb.out.1.size)) (bb.out.2.below h bb.out.2.lt))
       have p5 : w6.cell? ⟨w.heap.size, 5, none⟩ = some (.int .i64 mk) := bb.out.2.cell 5
       have p6 : w6.cell? ⟨w.heap.size, 6, none⟩ = some (.int .i64 mn) := bb.out.2.cell 6
       clear h)
    | (go_at_call 9; (with_reducible refine (c4.out _).mono ?_); rintro e w7 ⟨rfl, h⟩
       have bb := Lib.hid (And.intro (bb.out.1.trans (Below.mono h bb.out.1.size)) (bb.out.2.below h bb.out.2.lt))
       clear h)
    | (go_at_call 16; (with_reducible refine (c5.out _).mono ?_); rintro e w8 ⟨rfl, rfl⟩)
    | (go_at_call 17; (with_reducible refine (c6.out _).mono ?_); rintro e w9 ⟨rfl, rfl⟩))
  go_ret
  exact ⟨rfl, bb.out.1⟩
end Go.Proofs.YtbkjmmeipbbaaaaDoor
