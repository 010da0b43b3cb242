/- Two rows of the same tokens are held to be the same. -/
import Derived.Test.YtmnadgkneaiccaaDoorLexRefI
import Derived.Test.YtmnadgkneaiccaaDoorLexAwake
namespace Go.Proofs.YtmnadgkneaiccaaDoor
open Go.ChangeShapes Go.WideShapes Go.ChangeAt Go.RowKit

theorem neq_token (k n : Int) (s : ByteArray) (l c x : Int) (w : World) :
    (binOp .neq 24 (.agg #[.int .i64 k, .int .i64 n, .string s, .int .i64 l, .int .i64 c, .int .i64 x]) (.agg #[.int .i64 k, .int .i64 n, .string s, .int .i64 l, .int .i64 c, .int .i64 x])).run Tryd.prog w = .ok (.bool false) w := by
  have u3 := Tryd.underlying3
  have u9 := Tryd.underlying9
  have a3 := Tryd.isAgg3
  have a9 := Tryd.isAgg9
  have hS : Tryd.prog.underlying 24 = some (.struct (Tryd.prog.fieldsOf 24)) := by kernel_rfl
  have hp : Tryd.prog.stoodInHeld 24 = false := by kernel_rfl
  rw [run_neq_struct, show (10000 : Nat) = 9999 + 1 from rfl, run_equalIn_agg w 9999 24 _ _ hS hp]
  simp only [Program.fieldsOf, Tryd.underlying24]
  go_simp

set_option maxRecDepth 100000 in
set_option maxHeartbeats 4000000 in
theorem Same_yes (l : List LM.Tv) (hl : l.length ≤ 100000) (v1 v2 : Value) (B1 B2 : Nat) (w : World) (h1 : OwnT w B1 v1 l) (h2 : OwnT w B2 v2 l) :
    Calls Tryd.prog 15 #[v1, v2] w fun e w' => e = .returned (.bool true) ∧ Went w w' := by
  have N := Lib.hid neq_token
  obtain ⟨A1, c1, rfl⟩ := h1.read
  obtain ⟨A2, c2, rfl⟩ := h2.read
  obtain ⟨n, hn⟩ : ∃ n, l.length = n := ⟨_, rfl⟩
  rw [hn] at h1 h2 hl ⊢
  have hn' := Lib.hid hn
  clear hn
  go_enter Tryd.func15, Tryd.ntmps15
  go_wp2
  go_loopw [5] (fun i wr => ∃ j : Nat, j ≤ n ∧ i = .int .i64 j ∧ ∃ k, wr = w.drewN k) (fun i _ => n - (intOf i).toNat)
  case atStart => exact ⟨0, by omega, rfl, 0, rfl⟩
  case round =>
    obtain ⟨j, hj, rfl, k, rfl⟩ := hrel
    by_cases hlt : j < n
    · obtain ⟨t, ht⟩ : ∃ t, l[j]? = some t := ⟨l[j]'(by rw [hn'.out]; omega), List.getElem?_eq_getElem _⟩
      obtain ⟨g, rfl, -, hg, p0, p1, p2, p3, p4, p5⟩ := h1.cell ht
      obtain ⟨g2, rfl, -, hg2, q0, q1, q2, q3, q4, q5⟩ := h2.cell ht
      have r := N.out t.k t.n ⟨t.s.toArray⟩ t.line t.col t.next
      go_wp2
      go_region_with (fail)
      all_goals
        go_wp2_with fail
        (repeat apply Exists.intro)
        try exact ⟨⟨⟨j + 1, by omega, by go_num, _, rfl⟩, by simp [intOf]; omega⟩, rfl⟩
        try exact ⟨⟨j + 1, by omega, by go_num, _, rfl⟩, by simp [intOf]; omega⟩
    · go_wp2
      go_ret
      exact ⟨rfl, below_drewN (Below.refl _ _) _⟩
end Go.Proofs.YtmnadgkneaiccaaDoor
