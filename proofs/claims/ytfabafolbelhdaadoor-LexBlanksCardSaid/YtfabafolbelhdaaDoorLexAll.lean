/- What package lex gives: Next, and All. -/
import Derived.Test.YtfabafolbelhdaaDoorLexPlace
namespace Go.Proofs.YtfabafolbelhdaaDoor
open Go.ChangeShapes Go.WideShapes Go.ChangeAt Go.RowKit

theorem nxv_yes {X : LM.Nx} {a : Nat} (h : X.t.e = 0) : nxv X a = .tuple #[.agg #[.int .i64 X.t.k, .int .i64 X.t.n, .string ⟨X.t.s.toArray⟩, .int .i64 X.line, .int .i64 X.col, .int .i64 (a + X.len : Nat)], .nilIface] := by
  unfold nxv; rw [if_pos h]
theorem nxv_no {X : LM.Nx} {a : Nat} (h : X.t.e ≠ 0) : nxv X a = .tuple #[.agg #[.int .i64 0, .int .i64 0, .string ⟨#[]⟩, .int .i64 0, .int .i64 0, .int .i64 0], .iface 58 (.agg #[.int .i64 X.line, .int .i64 X.col, .iface 48 (.int .i64 X.t.e)])] := by
  unfold nxv; rw [if_neg h]

/-- a place that is none -/
def noplace (s : ByteArray) (a line col : Int) : Prop := a < 0 ∨ (s.size : Int) < a ∨ ¬ (1 ≤ line ∧ line ≤ 1073741824) ∨ ¬ (1 ≤ col ∧ col ≤ 1073741824)
theorem Next_no (s : ByteArray) (a line col : Int) (h : noplace s a line col) (w : World) :
    Calls Tryd.prog 21 #[.string s, .int .i64 a, .int .i64 line, .int .i64 col] w fun e w' => e = .returned (.tuple #[.agg #[.int .i64 0, .int .i64 0, .string ⟨#[]⟩, .int .i64 0, .int .i64 0, .int .i64 0], .iface 48 (.int .i64 3)]) ∧ Went w w' := by
  by_cases h1 : a < 0
  · go_enter Tryd.func21, Tryd.ntmps21
    go_wp2
    exact bodyPost_ret (v := .tuple #[.agg #[.int .i64 0, .int .i64 0, .string ⟨#[]⟩, .int .i64 0, .int .i64 0, .int .i64 0], .iface 48 (.int .i64 3)]) (by simp [results, Tryd.results21, go_sem]) rfl ⟨rfl, (Below.refl _ _).alloc (Nat.le_refl _) _⟩
  by_cases h2 : (s.size : Int) < a
  · go_enter Tryd.func21, Tryd.ntmps21
    go_wp2
    exact bodyPost_ret (v := .tuple #[.agg #[.int .i64 0, .int .i64 0, .string ⟨#[]⟩, .int .i64 0, .int .i64 0, .int .i64 0], .iface 48 (.int .i64 3)]) (by simp [results, Tryd.results21, go_sem]) rfl ⟨rfl, (Below.refl _ _).alloc (Nat.le_refl _) _⟩
  have c3 := isCount_any line
  have c4 := isCount_any col
  by_cases h3 : 1 ≤ line ∧ line ≤ 1073741824
  · rw [decide_eq_true h3] at c3
    have h4 : ¬ (1 ≤ col ∧ col ≤ 1073741824) := by
      rcases h with h | h | h | h
      · exact absurd h h1
      · exact absurd h h2
      · exact absurd h3 h
      · exact h
    rw [decide_eq_false h4] at c4
    have d3 := Lib.hid c3
    have d4 := Lib.hid c4
    clear c3 c4 h3 h4 h
    go_enter Tryd.func21, Tryd.ntmps21
    go_wp2_with (first
      | (go_at_call 36; (with_reducible refine (d3.out _).mono ?_); rintro e w' ⟨rfl, rfl⟩)
      | (go_at_call 36; (with_reducible refine (d4.out _).mono ?_); rintro e w' ⟨rfl, rfl⟩))
    exact bodyPost_ret (v := .tuple #[.agg #[.int .i64 0, .int .i64 0, .string ⟨#[]⟩, .int .i64 0, .int .i64 0, .int .i64 0], .iface 48 (.int .i64 3)]) (by simp [results, Tryd.results21, go_sem]) rfl ⟨rfl, (Below.refl _ _).alloc (Nat.le_refl _) _⟩
  · rw [decide_eq_false h3] at c3
    have d3 := Lib.hid c3
    clear c3 c4 h3 h
    go_enter Tryd.func21, Tryd.ntmps21
    go_wp2_with (go_at_call 36; refine (d3.out _).mono ?_; rintro e w' ⟨rfl, rfl⟩)
    exact bodyPost_ret (v := .tuple #[.agg #[.int .i64 0, .int .i64 0, .string ⟨#[]⟩, .int .i64 0, .int .i64 0, .int .i64 0], .iface 48 (.int .i64 3)]) (by simp [results, Tryd.results21, go_sem]) rfl ⟨rfl, (Below.refl _ _).alloc (Nat.le_refl _) _⟩

theorem Next_any (s : ByteArray) (hs : s.size ≤ 281474976710000) (a : Nat) (ha : a ≤ s.size) (line col : Int) (hl : 1 ≤ line ∧ line ≤ 1073741824) (hc : 1 ≤ col ∧ col ≤ 1073741824) (w : World) :
    Calls Tryd.prog 21 #[.string s, .int .i64 (a : Nat), .int .i64 line, .int .i64 col] w fun e w' => e = .returned (nxv (LM.nx (s.data.toList.drop a) line col) a) ∧ Went w w' := by
  have c3 := isCount_any line
  have c4 := isCount_any col
  rw [decide_eq_true hl] at c3
  rw [decide_eq_true hc] at c4
  have hN := next_any s hs a ha line col (by omega) (by omega) (by omega) (by omega)
  generalize LM.nx (s.data.toList.drop a) line col = X at *
  have d3 := Lib.hid c3
  have d4 := Lib.hid c4
  clear c3 c4 hl hc
  by_cases he : X.t.e = 0
  · rw [nxv_yes he] at hN ⊢
    have hN' := Lib.hid hN
    clear hN he
    go_enter Tryd.func21, Tryd.ntmps21
    go_wp2_with (first
      | (go_at_call 36; (with_reducible refine (d3.out _).mono ?_); rintro e w' ⟨rfl, rfl⟩)
      | (go_at_call 36; (with_reducible refine (d4.out _).mono ?_); rintro e w' ⟨rfl, rfl⟩)
      | (go_at_call 23; refine (hN'.out _).mono ?_; rintro e w1 ⟨rfl, hb⟩; obtain ⟨hc, hf⟩ := bcell hb))
    exact bodyPost_ret (v := .tuple #[.agg #[.int .i64 X.t.k, .int .i64 X.t.n, .string ⟨X.t.s.toArray⟩, .int .i64 X.line, .int .i64 X.col, .int .i64 (a + X.len : Nat)], .nilIface]) (by simp [results, Tryd.results21, go_sem, hc]) rfl ⟨rfl, below_six (below_new hb) (Nat.le_refl _) _ _ _ _ _ _⟩
  · rw [nxv_no he] at hN ⊢
    have hN' := Lib.hid hN
    clear hN he
    go_enter Tryd.func21, Tryd.ntmps21
    go_wp2_with (first
      | (go_at_call 36; (with_reducible refine (d3.out _).mono ?_); rintro e w' ⟨rfl, rfl⟩)
      | (go_at_call 36; (with_reducible refine (d4.out _).mono ?_); rintro e w' ⟨rfl, rfl⟩)
      | (go_at_call 23; refine (hN'.out _).mono ?_; rintro e w1 ⟨rfl, hb⟩; obtain ⟨hc, hf⟩ := bcell hb))
    exact bodyPost_ret (v := .tuple #[.agg #[.int .i64 0, .int .i64 0, .string ⟨#[]⟩, .int .i64 0, .int .i64 0, .int .i64 0], .iface 58 (.agg #[.int .i64 X.line, .int .i64 X.col, .iface 48 (.int .i64 X.t.e)])]) (by simp [results, Tryd.results21, go_sem, hc]) rfl ⟨rfl, below_six (below_new hb) (Nat.le_refl _) _ _ _ _ _ _⟩
end Go.Proofs.YtfabafolbelhdaaDoor
