/- ObjFill, walked. -/
import Derived.Test.YtagedholocgahaaGreatDoorOAwake
namespace Go.Proofs.YtagedholocgahaaGreatDoor
open Go.ChangeShapes Go.WideShapes Go.ChangeAt Go.RowKit

theorem wf_u64 {n : Int} (h : (Go.Lit.int .u64 n).wf = true) : 0 ≤ n ∧ n < 18446744073709551616 := by
  simp [Lit.wf, show IntKind.u64.min = 0 by decide +kernel, show IntKind.u64.max = 18446744073709551615 by decide +kernel] at h
  omega
theorem wf_u8 {n : Int} (h : (Go.Lit.int .u8 n).wf = true) : 0 ≤ n ∧ n ≤ 255 := by
  simp [Lit.wf, show IntKind.u8.min = 0 by decide +kernel, show IntKind.u8.max = 255 by decide +kernel] at h
  omega
theorem makes_any (t n : Int) (w : World) : Calls Tryz.prog 28 #[.int .i64 t, .int .i64 n] w fun e w' => e = .returned (.bool (madeT t && decide (0 ≤ n ∧ n ≤ 120))) ∧ w = w' := by
  by_cases h1 : t = 1
  · subst h1
    have e : (madeT 1 && decide (0 ≤ n ∧ n ≤ 120)) = decide (0 ≤ n ∧ n ≤ 120) := rfl
    rw [e]
    by_cases h0 : 0 ≤ n
    · by_cases h2 : n ≤ 120
      · rw [decide_eq_true ⟨h0, h2⟩]
        go_enter Tryz.func28, Tryz.ntmps28
        go_wp2
        go_ret
        exact ⟨rfl, rfl⟩
      · rw [decide_eq_false (fun h => h2 h.2)]
        go_enter Tryz.func28, Tryz.ntmps28
        go_wp2
        go_ret
        exact ⟨rfl, rfl⟩
    · rw [decide_eq_false (fun h => h0 h.1)]
      go_enter Tryz.func28, Tryz.ntmps28
      go_wp2
      go_ret
      exact ⟨rfl, rfl⟩
  · have e1 : (t == 1) = false := by simpa using h1
    by_cases h3 : 3 ≤ t
    · by_cases h12 : t ≤ 12
      · have e : madeT t = true := decide_eq_true (by omega)
        rw [e, Bool.true_and]
        by_cases h0 : 0 ≤ n
        · by_cases h2 : n ≤ 120
          · rw [decide_eq_true ⟨h0, h2⟩]
            go_enter Tryz.func28, Tryz.ntmps28
            go_wp2
            go_ret
            exact ⟨rfl, rfl⟩
          · rw [decide_eq_false (fun h => h2 h.2)]
            go_enter Tryz.func28, Tryz.ntmps28
            go_wp2
            go_ret
            exact ⟨rfl, rfl⟩
        · rw [decide_eq_false (fun h => h0 h.1)]
          go_enter Tryz.func28, Tryz.ntmps28
          go_wp2
          go_ret
          exact ⟨rfl, rfl⟩
      · have e : madeT t = false := decide_eq_false (by omega)
        rw [e, Bool.false_and]
        go_enter Tryz.func28, Tryz.ntmps28
        go_wp2
        go_ret
        exact ⟨rfl, rfl⟩
    · have e : madeT t = false := decide_eq_false (by omega)
      rw [e, Bool.false_and]
      go_enter Tryz.func28, Tryz.ntmps28
      go_wp2
      go_ret
      exact ⟨rfl, rfl⟩
/-- plainly, of one word -/
theorem plainly_one (x : Int) (x0 : 0 ≤ x) (x1 : x < 18446744073709551616) (y : Bool) (hy : (WM.kd x != 2) = y) (w : World) :
    Calls Tryz.prog 25 #[.slice (some ⟨w.heap.size, 0, none⟩) 1 1] (w.alloc (.cells #[.int .u64 x] 35)) fun e w' => e = .returned (.bool y) ∧ w.alloc (.cells #[.int .u64 x] 35) = w' := by
  have hl : Lies (w.alloc (.cells #[.int .u64 x] 35)) w.heap.size 35 [.int .u64 x] := Lies.made w _ _
  have := plainly_any (some ⟨w.heap.size, 0, none⟩) 1 1 [x] _ (by unfold maxLen; omega) (fun j hj => ⟨_, 0, rfl, by
    obtain rfl : j = 0 := by omega
    exact hl.cell 0⟩) (fun i => by
      cases i with
      | zero => exact ⟨x0, x1⟩
      | succ i => simp)
  rw [show plainW [x] 1 = y by rw [← hy]; simp [plainW]] at this
  exact this

/-- the laws' end: what was there stands -/
theorem law_end {w0 w1 w2 : World} {q p b : Nat} (h1 : Below w0.heap.size w0 w1) (h2 : Turns (Own3 q p b) w1 w2) (hq : w0.heap.size ≤ q) (hp : w0.heap.size ≤ p) (hb : w0.heap.size ≤ b) : Below w0.heap.size w0 w2 :=
  h1.trans (h2.below h1.size (fun k hk => by unfold Own3 at hk; omega))

set_option maxHeartbeats 1000000 in
set_option maxRecDepth 100000 in
theorem objFill_walk (tag n x : Int) (w : World) (ht : Tab w) (x0 : 0 ≤ x) (x1 : x < 18446744073709551616) :
    Calls Tryz.prog 8 #[.int .i64 tag, .int .i64 n, .int .u64 x] w fun e w' => e = .returned (.bool true) ∧ Below w.heap.size w w' := by
  have AW := Lib.hid (awake06_any w ht)
  have T1 := Lib.hid (fun w1 (h : Below w.heap.size w w1) => ht.turns (Turns.of_below h (fun _ => False)) (fun h => h))
  have AW2 := Lib.hid (fun w1 (h : Below w.heap.size w w1) => awake06_any w1 (T1.out w1 h))
  have BG := Lib.hid (fun w1 (h : Below w.heap.size w w1) => begun_any w1 (T1.out w1 h))
  by_cases hk : WM.kd x = 2
  · have PL := Lib.hid (fun w => plainly_one x x0 x1 false (by rw [hk]; rfl) w)
    clear ht
    go_enter Tryz.func8, Tryz.ntmps8
    go_wp2_with (first
      | (go_at_call 24; (with_reducible refine AW.out.mono ?_); rintro e w1 ⟨rfl, hb1⟩)
      | (go_at_call 25; refine (PL.out _).mono ?_; rintro e w2 ⟨rfl, rfl⟩; have hb2 := hb1.alloc hb1.size (.cells #[.int .u64 x] 35))
      | (go_at_call 24; refine (AW2.out _ hb2).mono ?_; rintro e w3 ⟨rfl, hb3⟩))
    go_ret
    exact ⟨rfl, hb2.trans (hb3.mono hb2.size)⟩
  · have PL := Lib.hid (fun w => plainly_one x x0 x1 true (by simpa using hk) w)
    have KF := Lib.hid (fun w => kind_fourteen w)
    have K2 := Lib.hid (fun w => kind_two w)
    clear ht
    by_cases hl : n < 0 ∨ 120 < n
    · have FL := Lib.hid (fun q w => fill_long q tag n x hl w)
      rcases (show n < 0 ∨ (0 ≤ n ∧ 120 < n) by omega) with h | ⟨h, h'⟩
      all_goals
        clear hl
        go_enter Tryz.func8, Tryz.ntmps8
        go_wp2_with (first
          | (go_at_call 24; (with_reducible refine AW.out.mono ?_); rintro e w1 ⟨rfl, hb1⟩)
          | (go_at_call 25; refine (PL.out _).mono ?_; rintro e w2 ⟨rfl, rfl⟩; have hb2 := hb1.alloc hb1.size (.cells #[.int .u64 x] 35))
          | (go_at_call 26; refine (BG.out _ hb2).mono ?_; rintro e w3 ⟨q, p, b, rfl, o3, hb3, hq, hp, hbb⟩)
          | (go_at_call 38; refine (FL.out _ _).mono ?_; rintro e w' ⟨rfl, rfl⟩)
          | (go_at_call 29; refine (KF.out _).mono ?_; rintro e w4 ⟨rfl, hb4⟩))
        go_ret
        have hb23 := hb2.trans (hb3.mono hb2.size)
        exact ⟨rfl, hb23.trans (hb4.mono hb23.size)⟩
    · have n0 : 0 ≤ n := by omega
      have n1 : n ≤ 120 := by omega
      obtain ⟨m, rfl⟩ := Int.eq_ofNat_of_zero_le n0
      have m1 : m ≤ 120 := by omega
      have MS := Lib.hid (fun w => makes_any tag m w)
      have ed : decide (0 ≤ (m : Int) ∧ (m : Int) ≤ 120) = true := decide_eq_true ⟨n0, n1⟩
      by_cases hm : madeT tag = true
      · rw [hm, ed] at MS
        have FO := Lib.hid (fun q p b w1 (o : Os w1 q p b 0 G2 Md.none (fun _ => 0) 0 (fun _ => False)) => fill_of o tag m x m1 hm (ok_w x0 x1 hk) (by decide) (G2_room (cln_lt _) (by omega)))
        have ht' := of_decide_eq_true hm
        have FF : Hid (∀ q p b y w1 (j : Nat), j < m → Os w1 q p b (0 + G2.k.toNat) G2 (Md.none.obj 0 1 m y (List.replicate m (V.w x)) m) (tgs (fun _ => 0) 0 tag) (0 + 1) (plus (Reach Md.none) 0) → Calls Tryz.prog 32 #[.pointer (some ⟨q, 0, none⟩), .int .u64 (8 * y + 1), .int .i64 tag, .int .i64 (j : Int)] w1 fun e w' =>
            e = .returned (.tuple #[.int .u64 x, .nilIface]) ∧ Os w' q p b (0 + G2.k.toNat) G2 (Md.none.obj 0 1 m y (List.replicate m (V.w x)) m) (tgs (fun _ => 0) 0 tag) (0 + 1) (plus (Reach Md.none) 0) ∧ Turns (Own3 q p b) w1 w') := fun q p b y w1 j hj h1 => by
          have := field_of h1 (z := 0) (j := j) (.inr rfl) hj (show ¬ ((1 : Int) = 2 ∧ tag = 2) by omega)
          rw [show (Md.none.obj 0 1 m y (List.replicate m (V.w x)) m).fld 0 j = V.w x by simp [Md.obj, hj]] at this
          exact this
        have LN : Hid (∀ q p b y w1, Os w1 q p b (0 + G2.k.toNat) G2 (Md.none.obj 0 1 m y (List.replicate m (V.w x)) m) (tgs (fun _ => 0) 0 tag) (0 + 1) (plus (Reach Md.none) 0) → Calls Tryz.prog 34 #[.pointer (some ⟨q, 0, none⟩), .int .u64 (8 * y + 1)] w1 fun e w' =>
            e = .returned (.int .i64 (m : Int)) ∧ Os w' q p b (0 + G2.k.toNat) G2 (Md.none.obj 0 1 m y (List.replicate m (V.w x)) m) (tgs (fun _ => 0) 0 tag) (0 + 1) (plus (Reach Md.none) 0) ∧ Turns (Own3 q p b) w1 w') := fun q p b y w1 h1 => len_of h1 (z := 0) (.inr rfl)
        clear hm ed hl hk ht'
        go_enter Tryz.func8, Tryz.ntmps8
        go_wp2_with (first
          | (go_at_call 24; (with_reducible refine AW.out.mono ?_); rintro e w1 ⟨rfl, hb1⟩)
          | (go_at_call 25; refine (PL.out _).mono ?_; rintro e w2 ⟨rfl, rfl⟩; have hb2 := hb1.alloc hb1.size (.cells #[.int .u64 x] 35))
          | (go_at_call 26; refine (BG.out _ hb2).mono ?_; rintro e w3 ⟨q, p, b, rfl, o3, hb3, hq, hp, hbb⟩)
          | (go_at_call 38; refine (FO.out _ _ _ _ o3).mono ?_; rintro e w4 ⟨y, rfl, o4, ht4⟩)
          | (go_at_call 28; refine (MS.out _).mono ?_; rintro e w' ⟨rfl, rfl⟩))
        have hb23 := hb2.trans (hb3.mono hb2.size)
        have h0 := hb2.size
        have hb4 := law_end hb23 ht4 (by omega) (by omega) (by omega)
        have FY := Lib.hid (fun w1 j hj h1 => FF.out q p b y w1 j hj h1)
        have LY := Lib.hid (fun w1 h1 => LN.out q p b y w1 h1)
        clear FF LN FO
        generalize Md.none.obj 0 1 m y (List.replicate m (V.w x)) m = M1 at *
        generalize 8 * y + 1 = cy at *
        clear ht4 hb3
        go_loopw [56] (fun v wr => ∃ j : Nat, j ≤ m ∧ v = .int .i64 j ∧ Os wr q p b (0 + G2.k.toNat) G2 M1 (tgs (fun _ => 0) 0 tag) (0 + 1) (plus (Reach Md.none) 0) ∧ Below w.heap.size w wr) (fun v _ => m - (intOf v).toNat)
        case atStart => exact ⟨0, by omega, rfl, o4, hb4⟩
        case round =>
          obtain ⟨j, hj, rfl, o, hb⟩ := hrel
          by_cases hjm : j < m
          · have FJ := Lib.hid (FY.out wr j hjm o)
            go_wp2_with (go_at_call 32; refine FJ.out.mono ?_; rintro e w5 ⟨rfl, o5, ht5⟩)
            go_roundw
            case rel => exact ⟨j + 1, by omega, by go_num, o5, law_end hb ht5 (by omega) (by omega) (by omega)⟩
            case measure => simp [intOf]; omega
          · go_wp2_with (go_at_call 34; refine (LY.out _ o).mono ?_; rintro e w5 ⟨rfl, o5, ht5⟩)
            go_ret
            exact ⟨rfl, law_end hb ht5 (by omega) (by omega) (by omega)⟩
      · rw [Bool.not_eq_true] at hm
        rw [hm, Bool.false_and] at MS
        have FN := Lib.hid (fun q w => fill_no q tag x m m1 hm w)
        clear hm ed hl
        go_enter Tryz.func8, Tryz.ntmps8
        go_wp2_with (first
          | (go_at_call 24; (with_reducible refine AW.out.mono ?_); rintro e w1 ⟨rfl, hb1⟩)
          | (go_at_call 25; refine (PL.out _).mono ?_; rintro e w2 ⟨rfl, rfl⟩; have hb2 := hb1.alloc hb1.size (.cells #[.int .u64 x] 35))
          | (go_at_call 26; refine (BG.out _ hb2).mono ?_; rintro e w3 ⟨q, p, b, rfl, o3, hb3, hq, hp, hbb⟩)
          | (go_at_call 38; refine (FN.out _ _).mono ?_; rintro e w4 ⟨rfl, hb4⟩)
          | (go_at_call 28; refine (MS.out _).mono ?_; rintro e w' ⟨rfl, rfl⟩)
          | (go_at_call 29; refine (K2.out _).mono ?_; rintro e w5 ⟨rfl, hb5⟩))
        go_ret
        have hb23 := hb2.trans (hb3.mono hb2.size)
        have hb24 := hb23.trans (hb4.mono hb23.size)
        exact ⟨rfl, hb24.trans (hb5.mono hb24.size)⟩
end Go.Proofs.YtagedholocgahaaGreatDoor
