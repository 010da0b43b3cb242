/- What the readers of package env give, on: whether two names mean the same. -/
import Derived.Test.YtbkjmmeipbbaaaaDoorEnvCallsC
namespace Go.Proofs.YtbkjmmeipbbaaaaDoor
open Go.ChangeShapes Go.WideShapes Go.ChangeAt Go.RowKit

theorem eql_bd (i j : Int) (s t : ByteArray) (w : World) :
    (binOp .eql 77 (.agg #[.int .i64 i, .string s]) (.agg #[.int .i64 j, .string t])).run Tryd.prog w = .ok (.bool (decide (i = j ∧ s = t))) w := by
  have u3 := Tryd.underlying3
  have u9 := Tryd.underlying9
  have a3 := Tryd.isAgg3
  have a9 := Tryd.isAgg9
  have hS : Tryd.prog.underlying 77 = some (.struct (Tryd.prog.fieldsOf 77)) := by kernel_rfl
  have hp : Tryd.prog.stoodInHeld 77 = false := by kernel_rfl
  rw [run_eql_struct, show (10000 : Nat) = 9999 + 1 from rfl, run_equalIn_agg w 9999 77 _ _ hS hp]
  simp only [Program.fieldsOf, Tryd.underlying77]
  by_cases h1 : i = j
  · subst h1
    by_cases h2 : s = t
    · subst h2
      go_simp
    · obtain ⟨e1, e2, e3⟩ := tl_ne h2
      rw [decide_eq_false (fun h => h2 h.2)]
      go_simp
  · have e1 : (i == j) = false := by simpa using h1
    rw [decide_eq_false (fun h => h1 h.1)]
    go_simp

theorem same_nil (a b : Int) (x y : ByteArray) (w : World) :
    Calls Tryd.prog 16 #[.pointer none, .int .i64 a, .string x, .int .i64 b, .string y] w fun e w' => e = .returned (.bool false) ∧ w = w' := by
  have hK := Lib.hid (fun w => check_nil a x w)
  rw [er_y (by omega)] at hK
  go_enter Tryd.func16, Tryd.ntmps16
  go_wp2_with (go_at_call 24; refine (hK.out _).mono ?_; rintro e w' ⟨rfl, rfl⟩)
  go_ret
  exact ⟨rfl, rfl⟩

set_option maxRecDepth 100000 in
theorem same_any (p : Nat) (D : Nat → Prop) (T : EM.Tb) (hO : EM.Ok T) (a b : Int) (x y : ByteArray) (hx : x.size ≤ 1000) (hy : y.size ≤ 1000) (w : World) (h : Tw w p D T) :
    Calls Tryd.prog 16 #[.pointer (some ⟨p, 0, none⟩), .int .i64 a, .string x, .int .i64 b, .string y] w fun e w' => e = .returned (.bool (EM.sm T a x b y)) ∧ Went w w' := by
  have hK := Lib.hid (fun w h => check_any p D T a x (by omega) w h)
  have hK2 := Lib.hid (fun w h => check_any p D T b y (by omega) w h)
  have h' := Lib.hid h
  clear h
  by_cases c1 : EM.ck T a x = 0
  · rw [c1, er_n] at hK
    by_cases c2 : EM.ck T b y = 0
    · rw [c2, er_n] at hK2
      obtain ⟨ha, ha2, -⟩ := EM.ck_zero c1
      obtain ⟨hb, hb2, -⟩ := EM.ck_zero c2
      obtain ⟨a, rfl⟩ := Int.eq_ofNat_of_zero_le ha
      obtain ⟨b, rfl⟩ := Int.eq_ofNat_of_zero_le hb
      have ha' : a ≤ T.P.length := by omega
      have hb' : b ≤ T.P.length := by omega
      have hB := Lib.hid (fun w h => binds_any p D T hO a ha' x hx w h)
      have hB2 := Lib.hid (fun w h => binds_any p D T hO b hb' y hy w h)
      have e : EM.sm T (a : Int) x (b : Int) y = decide (EM.bs T a x = EM.bs T b y) := by
        unfold EM.sm
        rw [c1, c2]
        simp
      rw [e]
      clear e c1 c2 ha ha2 hb hb2 ha' hb' hx hy hO
      obtain ⟨⟨i, s⟩, e1⟩ : ∃ q, EM.bs T a x = q := ⟨_, rfl⟩
      obtain ⟨⟨j, t⟩, e2⟩ : ∃ q, EM.bs T b y = q := ⟨_, rfl⟩
      rw [e1] at hB ⊢
      rw [e2] at hB2 ⊢
      clear e1 e2
      simp only [encB] at hB hB2
      have hq := fun w => eql_bd i j s t w
      have e3 : decide ((⟨i, s⟩ : EM.Bd) = ⟨j, t⟩) = decide ((i : Int) = j ∧ s = t) := by
        by_cases h : (i : Int) = j ∧ s = t
        · obtain ⟨h1, rfl⟩ := h
          obtain rfl : i = j := by omega
          simp
        · rw [decide_eq_false h, decide_eq_false (fun hh => h (by cases hh; exact ⟨rfl, rfl⟩))]
      rw [e3]
      obtain ⟨r, hr⟩ : ∃ r, decide ((i : Int) = j ∧ s = t) = r := ⟨_, rfl⟩
      rw [hr]
      rw [hr] at hq
      clear hr e3
      go_enter Tryd.func16, Tryd.ntmps16
      go_wp2_with (first
        | (go_at_call 24; (with_reducible refine (hK.out _ h'.out).mono ?_); rintro e w2 ⟨rfl, hb⟩; have hT2 := Lib.hid (h'.out.below hb); have hW2 := Lib.hid hb; clear hb)
        | (go_at_call 24; (with_reducible refine (hK2.out _ hT2.out).mono ?_); rintro e w3 ⟨rfl, hb⟩; have hT3 := Lib.hid (hT2.out.below hb); have hW3 := Lib.hid (Went.trans hW2.out hb); clear hb)
        | (go_at_call 28; (with_reducible refine (hB.out _ hT3.out).mono ?_); rintro e w4 ⟨rfl, hb⟩; have hT4 := Lib.hid (hT3.out.below hb); have hW4 := Lib.hid (Went.trans hW3.out hb); clear hb)
        | (go_at_call 28; (with_reducible refine (hB2.out _ hT4.out).mono ?_); rintro e w5 ⟨rfl, hb⟩; have hW5 := Lib.hid (Went.trans hW4.out hb); clear hb))
      go_ret
      exact ⟨rfl, hW5.out⟩
    · have e : EM.sm T a x b y = false := by unfold EM.sm; rw [decide_eq_false (fun h => c2 h.2.1)]
      rw [e]
      rw [er_y c2] at hK2
      obtain ⟨k, hk⟩ : ∃ k, EM.ck T b y = k := ⟨_, rfl⟩
      rw [hk] at hK2
      clear e c1 c2 hx hy hO hk
      go_enter Tryd.func16, Tryd.ntmps16
      go_wp2_with (first
        | (go_at_call 24; (with_reducible refine (hK.out _ h'.out).mono ?_); rintro e w2 ⟨rfl, hb⟩; have hT2 := Lib.hid (h'.out.below hb); have hW2 := Lib.hid hb; clear hb)
        | (go_at_call 24; (with_reducible refine (hK2.out _ hT2.out).mono ?_); rintro e w3 ⟨rfl, hb⟩; have hW3 := Lib.hid (Went.trans hW2.out hb); clear hb))
      go_ret
      exact ⟨rfl, hW3.out⟩
  · have e : EM.sm T a x b y = false := by unfold EM.sm; rw [decide_eq_false (fun h => c1 h.1)]
    rw [e]
    rw [er_y c1] at hK
    obtain ⟨k, hk⟩ : ∃ k, EM.ck T a x = k := ⟨_, rfl⟩
    rw [hk] at hK
    clear e c1 hx hy hO hk
    go_enter Tryd.func16, Tryd.ntmps16
    go_wp2_with (go_at_call 24; refine (hK.out _ h'.out).mono ?_; rintro e w2 ⟨rfl, hb⟩)
    go_ret
    exact ⟨rfl, hb⟩
end Go.Proofs.YtbkjmmeipbbaaaaDoor
