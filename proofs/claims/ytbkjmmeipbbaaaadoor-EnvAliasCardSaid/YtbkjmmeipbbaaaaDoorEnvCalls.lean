/- What the readers of package env give: the kind of a name, the error of a place, the nearest place that binds a name, what binds it. -/
import Derived.Test.YtbkjmmeipbbaaaaDoorEnvMem
import Derived.Test.YtbkjmmeipbbaaaaDoorLexWord
import Derived.Deep.QuietTactic
import Derived.BigQuiet
import Derived.Lib.Hide
namespace Go.Proofs.YtbkjmmeipbbaaaaDoor
open Go.ChangeShapes Go.WideShapes Go.ChangeAt Go.RowKit

theorem isMeaning_any (k n : Int) (w : World) :
    Calls Tryd.prog 21 #[.agg #[.int .i64 k, .int .i64 n]] w fun e w' => e = .returned (.bool (decide (0 ≤ k ∧ k ≤ 3))) ∧ Went w w' := by
  by_cases h1 : 0 ≤ k
  · by_cases h2 : k ≤ 3
    · rw [decide_eq_true (show 0 ≤ k ∧ k ≤ 3 from ⟨h1, h2⟩)]
      go_enter Tryd.func21, Tryd.ntmps21
      go_wp2
      go_ret
      exact ⟨rfl, (Below.refl _ _).alloc (Nat.le_refl _) _⟩
    · rw [decide_eq_false (show ¬ (0 ≤ k ∧ k ≤ 3) from fun h => h2 h.2)]
      go_enter Tryd.func21, Tryd.ntmps21
      go_wp2
      go_ret
      exact ⟨rfl, (Below.refl _ _).alloc (Nat.le_refl _) _⟩
  · rw [decide_eq_false (show ¬ (0 ≤ k ∧ k ≤ 3) from fun h => h1 h.1)]
    go_enter Tryd.func21, Tryd.ntmps21
    go_wp2
    go_ret
    exact ⟨rfl, (Below.refl _ _).alloc (Nat.le_refl _) _⟩

theorem Tryd.zeroB (w : World) : (zeroValue 77).run Tryd.prog w = .ok (encB.V ⟨0, ByteArray.empty⟩) w := by kernel_rfl
theorem Tryd.zeroM (w : World) : (zeroValue 24).run Tryd.prog w = .ok (encM.V (0, 0)) w := by kernel_rfl

theorem kind_nil (x : ByteArray) (w : World) :
    Calls Tryd.prog 31 #[.pointer none, .string x] w fun e w' => e = .returned (.int .i64 0) ∧ w = w' := by
  go_enter Tryd.func31, Tryd.ntmps31
  go_wp2
  go_ret
  exact ⟨rfl, rfl⟩
theorem kind_any (p : Nat) (D : Nat → Prop) (T : EM.Tb) (x : ByteArray) (hx : x.size ≤ 1000000) (w : World) (h : Tw w p D T) :
    Calls Tryd.prog 31 #[.pointer (some ⟨p, 0, none⟩), .string x] w fun e w' => e = .returned (.int .i64 (EM.kd T x : Nat)) ∧ Went w w' := by
  obtain ⟨⟨mt, v, ma, nt, h1, h2, h3, h4, h5, h6, h7, h8⟩, h9, h10⟩ := h
  have c2 : w.cell? ⟨p, 2, none⟩ = some ma := h1.cell 2
  have hl := h5.look_ok Tryd.underlying61 Tryd.zeroB (b := x) (by unfold maxLen; omega)
  have hS := Lib.hid (fun w => Symbol_any x (by omega) w)
  clear h1 h2 h3 h4 h5 h6 h7 h8 h9 h10
  unfold EM.kd EM.sy
  cases hs : LM.sym x.data.toList with
  | true =>
    rw [if_pos rfl]
    go_enter Tryd.func31, Tryd.ntmps31
    go_wp2_with (go_at_call 20; refine (hS.out _).mono ?_; rw [hs]; rintro e w' ⟨rfl, rfl⟩)
    go_ret
    exact ⟨rfl, Below.refl _ _⟩
  | false =>
    rw [if_neg (by decide)]
    obtain ⟨b0, hb0⟩ : ∃ b0, (T.A x).getD ⟨0, ByteArray.empty⟩ = b0 := ⟨_, rfl⟩
    rw [hb0] at hl
    clear hb0
    cases ha : (T.A x).isSome with
    | true =>
      rw [if_pos rfl]
      rw [ha] at hl
      simp only [encB] at hl
      go_enter Tryd.func31, Tryd.ntmps31
      go_wp2_with (go_at_call 20; refine (hS.out _).mono ?_; rw [hs]; rintro e w' ⟨rfl, rfl⟩)
      go_ret
      exact ⟨rfl, (Below.refl _ _).alloc (Nat.le_refl _) _⟩
    | false =>
      rw [if_neg (by decide)]
      rw [ha] at hl
      simp only [encB] at hl
      go_enter Tryd.func31, Tryd.ntmps31
      go_wp2_with (go_at_call 20; refine (hS.out _).mono ?_; rw [hs]; rintro e w' ⟨rfl, rfl⟩)
      go_ret
      exact ⟨rfl, (Below.refl _ _).alloc (Nat.le_refl _) _⟩
end Go.Proofs.YtbkjmmeipbbaaaaDoor
