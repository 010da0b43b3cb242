/- What the readers of package env give, on: what binds a name, the symbol that it comes from, a new table. -/
import Derived.Test.YtbkjmmeipbbaaaaDoorEnvCallsB
import Derived.Test.YtbkjmmeipbbaaaaDoorEnvMathB
import Derived.Test.YtbkjmmeipbbaaaaDoorShelfB
namespace Go.Proofs.YtbkjmmeipbbaaaaDoor
open Go.ChangeShapes Go.WideShapes Go.ChangeAt Go.RowKit

/-- the library's word MaxLen holds some number -/
def MTab (w : World) : Prop := ∃ m : Int, w.cell? ⟨0, 0, none⟩ = some (.int .i64 m)
theorem MTab.on {w w' : World} (h : MTab w) (k : Went w w') : MTab w' := by
  obtain ⟨m, h⟩ := h
  exact ⟨m, (Below.cell k (p := ⟨0, 0, none⟩) (World.block_lt_of_cell? w _ h)).trans h⟩

theorem new_any (w : World) :
    Calls Tryd.prog 7 #[] w fun e w' => e = .returned (.pointer (some ⟨w.heap.size, 0, none⟩)) ∧ w' = w.alloc (.cells #[.map none, .slice none 0 0, .map none] 63) := by
  go_enter Tryd.func7, Tryd.ntmps7
  go_wp2
  go_ret
  exact ⟨rfl, rfl⟩

set_option maxRecDepth 100000 in
theorem binds_any (p : Nat) (D : Nat → Prop) (T : EM.Tb) (hO : EM.Ok T) (a : Nat) (ha : a ≤ T.P.length) (x : ByteArray) (hx : x.size ≤ 1000) (w : World) (h : Tw w p D T) :
    Calls Tryd.prog 28 #[.pointer (some ⟨p, 0, none⟩), .int .i64 (a : Nat), .string x] w fun e w' => e = .returned (encB.V (EM.bs T a x)) ∧ Went w w' := by
  have hN := Lib.hid (fun w h => nearest_any p D T hO.ups (by have := hO.len; omega) a ha x w h)
  have hba := hO.bs_at (x := x) ha
  have h' := Lib.hid (h.below ((Below.refl _ w).alloc (Nat.le_refl _) (.cells #[.int .i64 0, .string ByteArray.empty] 77)))
  obtain ⟨⟨mt, v, ma, nt, h1, h2, h3, h4, h5, h6, h7, h8⟩, h9, h10⟩ := h'.out
  have c2 : (w.alloc (.cells #[.int .i64 0, .string ByteArray.empty] 77)).cell? ⟨p, 2, none⟩ = some ma := h1.cell 2
  have hlk := h5.look_ok Tryd.underlying61 Tryd.zeroB (b := x) (by unfold maxLen; omega)
  clear h h1 h2 h3 h4 h5 h6 h7 h8 h9 h10 hba
  unfold EM.bs
  obtain ⟨R, hR⟩ : ∃ R, EM.nr T.P x a = R := ⟨_, rfl⟩
  rw [hR] at hN ⊢
  clear hR
  obtain ⟨b0, hb0⟩ : ∃ b0, (T.A x).getD ⟨0, ByteArray.empty⟩ = b0 := ⟨_, rfl⟩
  rw [hb0] at hlk
  simp only [encB] at hlk
  cases hA : T.A x with
  | none =>
    rw [hA] at hlk hb0
    have e : (if R = 0 then ((none : Option EM.Bd).getD ⟨0, x⟩) else ⟨R, x⟩) = (⟨R, x⟩ : EM.Bd) := by
      by_cases hz : R = 0
      · rw [if_pos hz, hz]; rfl
      · rw [if_neg hz]
    rw [e]
    clear e
    simp only [Option.isSome_none] at hlk
    clear hb0 hA
    go_enter Tryd.func28, Tryd.ntmps28
    go_wp2_with (go_at_call 41; refine (hN.out _ h'.out).mono ?_; rintro e w' ⟨rfl, rfl⟩)
    exact bodyPost_ret (v := (.agg #[.int .i64 (R : Nat), .string x])) (by simp [results, Tryd.results28, go_sem]) rfl ⟨rfl, ((Below.refl _ w).alloc (Nat.le_refl _) _).alloc (by simp) _⟩
  | some b =>
    rw [hA] at hlk hb0
    obtain rfl : b = b0 := hb0
    simp only [Option.isSome_some] at hlk
    clear hA
    by_cases hz : R = 0
    · rw [if_pos hz]
      subst hz
      simp only [Option.getD_some]
      go_enter Tryd.func28, Tryd.ntmps28
      go_wp2_with (go_at_call 41; refine (hN.out _ h'.out).mono ?_; rintro e w' ⟨rfl, rfl⟩)
      exact bodyPost_ret (v := (.agg #[.int .i64 (b.at_ : Nat), .string b.nm])) (by simp [results, Tryd.results28, go_sem]) rfl ⟨rfl, ((Below.refl _ w).alloc (Nat.le_refl _) _).alloc (by simp) _⟩
    · rw [if_neg hz]
      have hz' : ¬ (R : Int) = 0 := by omega
      go_enter Tryd.func28, Tryd.ntmps28
      go_wp2_with (go_at_call 41; refine (hN.out _ h'.out).mono ?_; rintro e w' ⟨rfl, rfl⟩)
      exact bodyPost_ret (v := (.agg #[.int .i64 (R : Nat), .string x])) (by simp [results, Tryd.results28, go_sem]) rfl ⟨rfl, ((Below.refl _ w).alloc (Nat.le_refl _) _).alloc (by simp) _⟩

theorem strip_nil (x : ByteArray) (w : World) :
    Calls Tryd.prog 17 #[.pointer none, .string x] w fun e w' => e = .returned (.string ByteArray.empty) ∧ w = w' := by
  have hK := Lib.hid (fun w => kind_nil x w)
  go_enter Tryd.func17, Tryd.ntmps17
  go_wp2_with (go_at_call 31; refine (hK.out _).mono ?_; rintro e w' ⟨rfl, rfl⟩)
  go_ret
  exact ⟨rfl, rfl⟩
theorem strip_any (p : Nat) (D : Nat → Prop) (T : EM.Tb) (x : ByteArray) (hx : x.size ≤ 1000000) (w : World) (h : Tw w p D T) (hM : MTab w) :
    Calls Tryd.prog 17 #[.pointer (some ⟨p, 0, none⟩), .string x] w fun e w' => e = .returned (.string (EM.st T x)) ∧ Went w w' := by
  have hK := Lib.hid (fun w h => kind_any p D T x hx w h)
  have h' := Lib.hid h
  clear h
  unfold EM.st
  obtain ⟨k, hk⟩ : ∃ k, EM.kd T x = k := ⟨_, rfl⟩
  rw [hk] at hK ⊢
  have hk3 : k ≤ 2 := by rw [← hk]; unfold EM.kd; split <;> (try split) <;> omega
  clear hk
  have hC := fun m w hm => Tryd.strings_Cut x ⟨#[32]⟩ m w (by omega) hm
  have hC' := Lib.hid hC
  clear hC
  by_cases h2 : k = 2
  · subst h2
    rw [if_pos rfl]
    obtain ⟨r1, hr1⟩ : ∃ r, Lib.cut x.data.toList [32] = r := ⟨_, rfl⟩
    have e0 : (⟨#[32]⟩ : ByteArray).data.toList = [32] := rfl
    unfold EM.pre
    rw [e0, hr1] at hC'
    rw [hr1]
    obtain ⟨r1, r2, r3⟩ := r1
    have hM' := Lib.hid (fun w' (k : Went w w') => hM.on k)
    go_enter Tryd.func17, Tryd.ntmps17
    go_wp2_with (first
      | (go_at_call 31; refine (hK.out _ h'.out).mono ?_; rintro e w' ⟨rfl, hb⟩; obtain ⟨m, hm⟩ := hM'.out _ hb; have hC2 := Lib.hid (hC'.out m w' hm); clear hm)
      | (go_at_call 32; refine hC2.out.mono ?_; rintro e w5 ⟨rfl, n, rfl⟩))
    go_ret
    exact ⟨rfl, below_drewN hb n⟩
  · rw [if_neg h2]
    by_cases h1 : k = 1
    · subst h1
      rw [if_pos rfl]
      go_enter Tryd.func17, Tryd.ntmps17
      go_wp2_with (go_at_call 31; refine (hK.out _ h'.out).mono ?_; rintro e w' ⟨rfl, hb⟩)
      go_ret
      exact ⟨rfl, hb⟩
    · rw [if_neg h1]
      obtain rfl : k = 0 := by omega
      go_enter Tryd.func17, Tryd.ntmps17
      go_wp2_with (go_at_call 31; refine (hK.out _ h'.out).mono ?_; rintro e w' ⟨rfl, hb⟩)
      go_ret
      exact ⟨rfl, hb⟩
end Go.Proofs.YtbkjmmeipbbaaaaDoor
