/- Where the cell stands that a word names. -/
import Derived.Test.YtagedholocgahaaGreatDoorTHeapB
import Derived.Test.YtagedholocgahaaGreatDoorTInv
namespace Go.Proofs.YtagedholocgahaaGreatDoor
open Go.ChangeShapes Go.WideShapes Go.ChangeAt Go.RowKit

section
variable {G : Geo} {H : Hp} {q p b : Nat} {w : World}
theorem Tr.bases (h : Tr w q p b G H) : w.cell? ⟨q, 5, none⟩ = some (.int .i64 51) ∧ w.cell? ⟨q, 6, none⟩ = some (.int .i64 G.b1) ∧ w.cell? ⟨q, 7, none⟩ = some (.int .i64 G.b2) ∧ w.cell? ⟨q, 8, none⟩ = some (.int .i64 G.b3) :=
  ⟨h.here.cell 5, h.here.cell 6, h.here.cell 7, h.here.cell 8⟩
theorem plc_none {v : Int} (h : (WM.kd v == 2) = false) : G.plc v = (0, false) := by
  rw [Geo.plc, if_neg (by simpa using h)]
theorem plc_out {v : Int} (hk : WM.kd v = 2) (h : ∀ j, j < 4 → G.inCl j (WM.vl v) = false) : G.plc v = (0, false) := by
  rw [Geo.plc, if_pos hk, if_neg (by simp [h 0]), if_neg (by simp [h 1]), if_neg (by simp [h 2]), if_neg (by simp [h 3])]
theorem plc_at {v : Int} {i : Nat} (hi : i < 4) (hk : WM.kd v = 2) (h : ∀ j, j < i → G.inCl j (WM.vl v) = false) (h1 : G.inCl i (WM.vl v) = true) : G.plc v = (WM.vl v, (WM.vl v - G.bas.at_ i) % ln i == 0) := by
  rcases lt4 hi with rfl | rfl | rfl | rfl
  · rw [Geo.plc, if_pos hk, if_pos h1]
  · rw [Geo.plc, if_pos hk, if_neg (by simp [h 0]), if_pos h1]
  · rw [Geo.plc, if_pos hk, if_neg (by simp [h 0]), if_neg (by simp [h 1]), if_pos h1]
  · rw [Geo.plc, if_pos hk, if_neg (by simp [h 0]), if_neg (by simp [h 1]), if_neg (by simp [h 2]), if_pos h1]
theorem Geo.ok.num (g : G.ok) {i : Nat} (hi : i < 4) : 0 ≤ G.n.at_ i ∧ G.n.at_ i ≤ 4000 ∧ 51 ≤ G.bas.at_ i ∧ G.bas.at_ i ≤ 1048576 := by
  have l := g.lines
  obtain ⟨h0, h1, h2, h3, m0, m1, m2, m3, -, -, -⟩ := g
  rcases lt4 hi with rfl | rfl | rfl | rfl <;> simp [Q4.at_, Geo.bas] <;> omega

theorem drewn {w wr : World} {k : Nat} (h : wr = w.drewN k) (n : Nat) : wr.drewN n = w.drewN (k + n) := by rw [h, World.drewN_drewN]
set_option maxRecDepth 100000 in
theorem place_any (g : G.ok) (v : Int) (h0 : 0 ≤ v) (h1 : v < 18446744073709551616) (w : World) (h : Tr w q p b G H) :
    Calls Tryz.prog 103 #[.pointer (some ⟨q, 0, none⟩), .int .u64 v] w fun e w' => e = .returned (.tuple #[.int .i64 (G.plc v).1, .bool (G.plc v).2]) ∧ ∃ k, w' = w.drewN k := by
  have KK := Lib.hid (fun w => kind_any v h0 h1 w)
  cases hk : WM.kd v == 2
  · rw [plc_none hk]
    have hk' : (WM.kd v != 2) = true := by simpa using hk
    clear hk h
    generalize WM.kd v = x at *
    go_enter Tryz.func103, Tryz.ntmps103
    go_wp2_with (go_at_call 61; refine (KK.out _).mono ?_; rintro e w' ⟨rfl, rfl⟩)
    go_ret2
    exact ⟨rfl, 0, rfl⟩
  · have hk2 : WM.kd v = 2 := by simpa using hk
    have hk' : (WM.kd v != 2) = false := by simp [hk2]
    have VV := Lib.hid (fun w => value_any v h0 h1 w)
    obtain ⟨v0, v1, -⟩ := vl_cell h0 h1 hk2
    have PO := Lib.hid (plc_out (G := G) hk2)
    have PA := Lib.hid (fun i hi => plc_at (G := G) (i := i) hi hk2)
    have TT := Lib.hid (fun wr k (e : wr = w.drewN k) => (e ▸ h.drewN k : Tr wr q p b G H))
    obtain ⟨c5, c6, c7, c8⟩ := h.bases
    clear h hk hk2 h0 h1
    generalize WM.kd v = x at *
    generalize WM.vl v = B at *
    generalize G.plc v = r at *
    go_enter Tryz.func103, Tryz.ntmps103
    go_wp2_with (first | (go_at_call 61; refine (KK.out _).mono ?_; rintro e w' ⟨rfl, rfl⟩) | (go_at_call 42; refine (VV.out _).mono ?_; rintro e w' ⟨rfl, rfl⟩))
    go_loopw [19] (fun c wr => ∃ i : Nat, i ≤ 4 ∧ c = .int .i64 i ∧ (∀ j, j < i → G.inCl j B = false) ∧ ∃ k, wr = w.drewN k) (fun c _ => 4 - (intOf c).toNat)
    case atStart => exact ⟨0, by omega, rfl, fun _ h => absurd h (by omega), 0, rfl⟩
    case round =>
      obtain ⟨i, hi, rfl, hn, k, hk⟩ := hrel
      have HK := Lib.hid hk
      have hT := TT.out _ _ hk
      clear hk
      by_cases h4 : i < 4
      · have hx : ∀ w, (Instr.index 22 (.agg #[.int .i64 51, .int .i64 G.b1, .int .i64 G.b2, .int .i64 G.b3]) (.int .i64 (i : Int))).run Tryz.prog w = .ok (.int .i64 (G.bas.at_ i)) w := index_four G.bas i h4
        obtain ⟨n0, n1, s0, s1⟩ := g.num h4
        have l0 := ln_lo i
        have l1 := ln_hi i
        have LL := Lib.hid (fun n => length_any i h4 (wr.drewN n) (hT.drewN n).tab)
        have CI := hT.counts h4
        have i0 : (0 : Int) ≤ (i : Int) := by omega
        have i1 : (i : Int) < 4 := by omega
        have PI := Lib.hid (PA.out i h4 hn)
        have HI : Hid (G.inCl i B = decide (0 ≤ B - G.bas.at_ i ∧ B - G.bas.at_ i < G.n.at_ i * ln i)) := rfl
        have HN := Lib.hid hn
        clear hn hT
        generalize G.bas.at_ i = s at *
        generalize G.n.at_ i = n at *
        generalize ln i = l at *
        have hp0 : 0 ≤ n * l := Int.mul_nonneg n0 (by omega)
        have hp1 : n * l ≤ 520000 := Int.le_trans (Int.mul_le_mul n1 l1 (by omega) (by omega)) (by decide)
        have hw : IntKind.i64.wrap (n * l) = n * l := IntWalk.i64_in _ (by omega)
        by_cases a0 : B < s
        · have g1 : decide (s ≤ B) = false := by simpa using a0
          have g2 : decide (0 ≤ B - s) = false := by simp; omega
          have HF := Lib.hid (show G.inCl i B = false by rw [HI.out]; simp; omega)
          have HW := Lib.hid hw
          clear hp0 hp1 hw
          go_wp2
          go_quiet (fail)
          go_wp2
          go_roundw
          case rel => exact ⟨i + 1, by omega, by go_num, fun j hj => by
            rcases Nat.lt_succ_iff_lt_or_eq.1 hj with hj | rfl
            · exact HN.out j hj
            · exact HF.out, _, drewn HK.out _⟩
          case measure => simp [intOf]; omega
        · have a0' : s ≤ B := by omega
          have g1 : decide (s ≤ B) = true := by simpa using a0'
          have g2 : decide (0 ≤ B - s) = true := by simpa using a0'
          by_cases a1 : B - s < n * l
          · have g3 : decide (B - s < n * l) = true := by simpa using a1
            have HT := Lib.hid (PI.out (show G.inCl i B = true by rw [HI.out]; simp; omega))
            have he := Int.tmod_eq_emod_of_nonneg (b := l) (show 0 ≤ B - s by omega)
            have HE := Lib.hid he
            clear he
            go_wp2
            go_quiet ((go_at_call 78; exact quiet_left (LL.out _)))
            go_wp2
            go_quiet ((go_at_call 78; exact quiet_add_left (LL.out _)))
            go_wp2
            go_ret2
            rw [HT.out, ← HE.out]
            first | exact ⟨rfl, _, drewn HK.out _⟩ | exact ⟨rfl, _, drewn (drewn HK.out _) _⟩
          · have g3 : decide (B - s < n * l) = false := by simp; omega
            have HF := Lib.hid (show G.inCl i B = false by rw [HI.out]; simp; omega)
            go_wp2
            go_quiet ((go_at_call 78; exact quiet_left (LL.out _)))
            go_wp2
            go_roundw
            case rel => exact ⟨i + 1, by omega, by go_num, fun j hj => by
              rcases Nat.lt_succ_iff_lt_or_eq.1 hj with hj | rfl
              · exact HN.out j hj
              · exact HF.out, _, drewn HK.out _⟩
            case measure => simp [intOf]; omega
      · obtain rfl : i = 4 := by omega
        have HH := Lib.hid (PO.out hn)
        clear hn hT
        go_wp2
        go_ret2
        rw [HH.out]
        exact ⟨rfl, _, HK.out⟩
end
end Go.Proofs.YtagedholocgahaaGreatDoor
