/- What the document's own answer finds right, lists and vectors too; Right and Small. -/
import Derived.Test.YthfelkcomhflnaaDoorQ33
namespace Go.Proofs.YthfelkcomhflnaaDoor
open Go.ChangeShapes Go.WideShapes Go.ChangeAt Go.RowKit

def RrOk (x : RM.Dm) : Prop := ∀ (w : World) (v : Value) (far : Int), In w v x.is → (SM.hi x.is : Int) + 1 ≤ far → far ≤ 100 →
  Calls Tryd.prog 51 #[dtv x v, .int .i64 far] w fun e w' => e = .returned (.bool (SM.kd x.k x.n x.s x.is && SM.rgt x.is)) ∧ Went w w'
set_option maxRecDepth 100000 in
set_option maxHeartbeats 4000000 in
theorem rr_step (k n : Int) (s : List UInt8) (is : RM.Dl) (hP : ∀ i x, is.at_ i = some x → RrOk x) : RrOk ⟨k, n, s, is⟩ := by
  intro w v far h1 hf0 hf1
  obtain ⟨A1, c1, rfl⟩ := h1.read
  have hlen := h1.len
  simp only at h1 hlen hf0 ⊢
  by_cases hk : k = 6 ∨ k = 7 ∨ k = 8
  · unfold dtv
    simp only
    obtain ⟨S, hS⟩ : ∃ S : ByteArray, ⟨s.toArray⟩ = S := ⟨_, rfl⟩
    have hSs : S.data.toList = s := by rw [← hS]
    obtain ⟨N, hN⟩ : ∃ N, is.len = N := ⟨_, rfl⟩
    obtain ⟨H, hH⟩ : ∃ H, SM.hi is = H := ⟨_, rfl⟩
    obtain ⟨G, hG⟩ : ∃ G, SM.rgt is = G := ⟨_, rfl⟩
    rw [hS, hG]
    rw [hN] at h1 hlen ⊢
    rw [hH] at hf0
    have hfar : 0 < N → 1 < far := fun h => by
      have := SM.hi_len is (by omega)
      omega
    have fin : ∀ b : Bool, b = (decide (n = 0) && decide (s = []) && (decide (k ≠ 7) || SM.dt is)) → b = SM.kd k n s is := by
      rintro b rfl
      rcases hk with rfl | rfl | rfl
      · simp [SM.kd]
      · simp [SM.kd, SM.dt, Bool.and_assoc]
      · simp [SM.kd]
    have fin' := Lib.hid fin
    have hN' := Lib.hid hN
    have hH' := Lib.hid hH
    have hG' := Lib.hid hG
    have hP' := Lib.hid hP
    have em := Lib.hid (@emp_is S)
    have hSs' := Lib.hid hSs
    have hL := Lies.made w 42 #[.int .i64 k, .int .i64 n, .string S, .slice A1 N c1]
    have hb0 : Below w.heap.size w (w.alloc (.cells #[.int .i64 k, .int .i64 n, .string S, .slice A1 N c1] 42)) := went_box _ _ _
    clear fin hN hH hG hP hS hSs
    by_cases hn : n = 0
    · subst hn
      rcases Nat.eq_zero_or_pos S.size with h0 | h0
      · obtain ⟨e1, e3, -⟩ := empty_yes (s := S) h0
        have hkd : Hid (SM.kd k 0 s is = (decide (k ≠ 7) || SM.dt is)) := Lib.hid (by
          rw [← fin'.out _ rfl, ← hSs'.out, em.out.1 h0]; rfl)
        -- the items, one by one
        have hpl : (¬ N = 0 ∧ 1 < far) ∨ N = 0 := by
          by_cases h : N = 0
          · exact .inr h
          · exact .inl ⟨h, hfar (by omega)⟩
        rcases hk with rfl | rfl | rfl
        · rcases hpl with ⟨hpl, hff⟩ | hpl
          · go_enter Tryd.func51, Tryd.ntmps51
            go_wp2_with fail
            go_loopw [6] (fun i wr => ∃ (j : Nat), j ≤ N ∧ i = .int .i64 j ∧ Hid (SM.rgt (SM.dr is j) = G) ∧ Below w.heap.size w wr ∧ Lies wr w.heap.size 42 [.int .i64 6, .int .i64 0, .string S, .slice A1 N c1]) (fun i _ => N - (intOf i).toNat)
            case atStart => exact ⟨0, by omega, rfl, Lib.hid (by rw [SM.dr_zero]; exact hG'.out), hb0, hL⟩
            case round =>
              obtain ⟨j, hj, rfl, hRj, hb, hM1⟩ := hrel
              clear hL hb0
              have y0 : wr.cell? ⟨w.heap.size, 0, none⟩ = some (.int .i64 6) := hM1.cell 0
              have y3 : wr.cell? ⟨w.heap.size, 3, none⟩ = some (.slice A1 N c1) := hM1.cell 3
              by_cases hlt : j < N
              · obtain ⟨x, hx⟩ := is.at_some j (by rw [hN'.out]; exact hlt)
                obtain ⟨b, o, B, q, rfl, hb0, p0, p1, p2, p3, hd1⟩ := (h1.below hb).at_ hx
                have hup : SM.hi x.is + 1 ≤ H := by
                  have h2 := SM.hi_at hx
                  have h3 := SM.hi_in is j
                  rw [hH'.out] at h3
                  omega
                have hR0 := hRj.out
                rw [SM.rgt_at' hx] at hR0
                have hC := Lib.hid (hP'.out j x hx wr (.slice B x.is.len q) (far - 1) hd1 (by omega) (by omega))
                obtain ⟨F, hF⟩ : ∃ F, (SM.kd x.k x.n x.s x.is && SM.rgt x.is) = F := ⟨_, rfl⟩
                rw [hF] at hR0 hC
                have hR0' := Lib.hid hR0
                unfold dtv at hC
                clear hx hF hR0 hRj hup
                cases F
                · go_wp2_with (go_at_call 51; refine (hC.out).mono ?_; rintro e w5 ⟨rfl, hb5⟩)
                  go_ret
                  exact ⟨ret_b (by rw [hkd.out, ← hR0'.out]; simp), hb.trans (hb5.mono hb.size)⟩
                · go_wp2_with (go_at_call 51; refine (hC.out).mono ?_; rintro e w5 ⟨rfl, hb5⟩; have hM3 := hM1.below hb5 hM1.lt; have hb6 : Below w.heap.size w w5 := hb.trans (hb5.mono hb.size); clear p0 p1 p2 p3 y0 y3 hb5)
                  go_roundw
                  case rel =>
                    have hR0 := hR0'.out
                    rw [Bool.true_and] at hR0
                    exact ⟨j + 1, by omega, by go_num, Lib.hid hR0, hb6, hM3⟩
                  case measure => simp [intOf]; omega
              · obtain rfl : j = N := by omega
                have hR0 := hRj.out
                rw [SM.dr_end is j (by rw [hN'.out]; exact Nat.le_refl _)] at hR0
                have hG1 : G = true := hR0.symm
                subst hG1
                go_wp2_with fail
                go_ret
                exact ⟨ret_b (by rw [hkd.out]; simp), hb⟩
          · subst hpl
            by_cases hff : far ≤ 1
            all_goals
              go_enter Tryd.func51, Tryd.ntmps51
              go_wp2_with fail
              go_loopw [6] (fun i wr => i = .int .i64 0 ∧ Below w.heap.size w wr ∧ Lies wr w.heap.size 42 [.int .i64 6, .int .i64 0, .string S, .slice A1 0 c1]) (fun _ _ => 0)
              case atStart => exact ⟨rfl, hb0, hL⟩
              case round =>
                obtain ⟨rfl, hb, hM1⟩ := hrel
                clear hL hb0
                have y0 : wr.cell? ⟨w.heap.size, 0, none⟩ = some (.int .i64 6) := hM1.cell 0
                have y3 : wr.cell? ⟨w.heap.size, 3, none⟩ = some (.slice A1 0 c1) := hM1.cell 3
                have hR0 := hG'.out
                have hG1 : G = true := by rw [← hR0]; exact SM.rgt_none hN'.out
                subst hG1
                go_wp2_with fail
                go_ret
                exact ⟨ret_b (by rw [hkd.out]; simp), hb⟩
        · rcases hpl with ⟨hpl, hff⟩ | hpl
          · go_enter Tryd.func51, Tryd.ntmps51
            go_wp2_with fail
            go_loopw [6] (fun i wr => ∃ (j : Nat), j ≤ N ∧ i = .int .i64 j ∧ Hid (SM.rgt (SM.dr is j) = G) ∧ Below w.heap.size w wr ∧ Lies wr w.heap.size 42 [.int .i64 7, .int .i64 0, .string S, .slice A1 N c1]) (fun i _ => N - (intOf i).toNat)
            case atStart => exact ⟨0, by omega, rfl, Lib.hid (by rw [SM.dr_zero]; exact hG'.out), hb0, hL⟩
            case round =>
              obtain ⟨j, hj, rfl, hRj, hb, hM1⟩ := hrel
              clear hL hb0
              have y0 : wr.cell? ⟨w.heap.size, 0, none⟩ = some (.int .i64 7) := hM1.cell 0
              have y3 : wr.cell? ⟨w.heap.size, 3, none⟩ = some (.slice A1 N c1) := hM1.cell 3
              by_cases hlt : j < N
              · obtain ⟨x, hx⟩ := is.at_some j (by rw [hN'.out]; exact hlt)
                obtain ⟨b, o, B, q, rfl, hb0, p0, p1, p2, p3, hd1⟩ := (h1.below hb).at_ hx
                have hup : SM.hi x.is + 1 ≤ H := by
                  have h2 := SM.hi_at hx
                  have h3 := SM.hi_in is j
                  rw [hH'.out] at h3
                  omega
                have hR0 := hRj.out
                rw [SM.rgt_at' hx] at hR0
                have hC := Lib.hid (hP'.out j x hx wr (.slice B x.is.len q) (far - 1) hd1 (by omega) (by omega))
                obtain ⟨F, hF⟩ : ∃ F, (SM.kd x.k x.n x.s x.is && SM.rgt x.is) = F := ⟨_, rfl⟩
                rw [hF] at hR0 hC
                have hR0' := Lib.hid hR0
                unfold dtv at hC
                clear hx hF hR0 hRj hup
                cases F
                · go_wp2_with (go_at_call 51; refine (hC.out).mono ?_; rintro e w5 ⟨rfl, hb5⟩)
                  go_ret
                  exact ⟨ret_b (by rw [hkd.out, ← hR0'.out]; simp), hb.trans (hb5.mono hb.size)⟩
                · go_wp2_with (go_at_call 51; refine (hC.out).mono ?_; rintro e w5 ⟨rfl, hb5⟩; have hM3 := hM1.below hb5 hM1.lt; have hb6 : Below w.heap.size w w5 := hb.trans (hb5.mono hb.size); clear p0 p1 p2 p3 y0 y3 hb5)
                  go_roundw
                  case rel =>
                    have hR0 := hR0'.out
                    rw [Bool.true_and] at hR0
                    exact ⟨j + 1, by omega, by go_num, Lib.hid hR0, hb6, hM3⟩
                  case measure => simp [intOf]; omega
              · obtain rfl : j = N := by omega
                have hR0 := hRj.out
                rw [SM.dr_end is j (by rw [hN'.out]; exact Nat.le_refl _)] at hR0
                have hG1 : G = true := hR0.symm
                subst hG1
                by_cases h2 : 2 ≤ j
                · obtain ⟨x, hx⟩ := is.at_some (j - 1) (by rw [hN'.out]; omega)
                  obtain ⟨b, o, B, q, rfl, hb0, p0, -, -, -, -⟩ := (h1.below hb).at_ hx
                  have hd : SM.dt is = decide (x.k ≠ 6 ∧ x.k ≠ 7) := by
                    unfold SM.dt
                    rw [SM.lastk_at is x (by rw [hN'.out]; exact hx), hN'.out, decide_eq_true h2, Bool.true_and]
                  have hd' : Hid (SM.dt is = decide (x.k ≠ 6 ∧ x.k ≠ 7)) := Lib.hid hd
                  obtain ⟨M, rfl⟩ : ∃ M, j = M + 1 := ⟨j - 1, by omega⟩
                  rw [Nat.add_sub_cancel] at p0
                  clear hd hx hRj hR0
                  obtain ⟨K, hK⟩ : ∃ K, x.k = K := ⟨_, rfl⟩
                  rw [hK] at p0 hd'
                  clear hK
                  have hw : wrap64 (M : Int) = M := by unfold wrap64; omega
                  by_cases h6 : K = 6 <;> by_cases h7 : K = 7
                  all_goals
                    first
                      | (exfalso; omega)
                      | (go_wp2_with fail
                         go_ret
                         exact ⟨ret_b (by rw [hkd.out, hd'.out]; simp [h6, h7]), hb⟩)
                · have hd : Hid (SM.dt is = false) := Lib.hid (by unfold SM.dt; rw [hN'.out, decide_eq_false h2, Bool.false_and])
                  go_wp2_with fail
                  go_ret
                  exact ⟨ret_b (by rw [hkd.out, hd.out]; simp), hb⟩
          · subst hpl
            by_cases hff : far ≤ 1
            all_goals
              go_enter Tryd.func51, Tryd.ntmps51
              go_wp2_with fail
              go_loopw [6] (fun i wr => i = .int .i64 0 ∧ Below w.heap.size w wr ∧ Lies wr w.heap.size 42 [.int .i64 7, .int .i64 0, .string S, .slice A1 0 c1]) (fun _ _ => 0)
              case atStart => exact ⟨rfl, hb0, hL⟩
              case round =>
                obtain ⟨rfl, hb, hM1⟩ := hrel
                clear hL hb0
                have y0 : wr.cell? ⟨w.heap.size, 0, none⟩ = some (.int .i64 7) := hM1.cell 0
                have y3 : wr.cell? ⟨w.heap.size, 3, none⟩ = some (.slice A1 0 c1) := hM1.cell 3
                have hR0 := hG'.out
                have hG1 : G = true := by rw [← hR0]; exact SM.rgt_none hN'.out
                subst hG1
                have hd : Hid (SM.dt is = false) := Lib.hid (by unfold SM.dt; rw [hN'.out]; rfl)
                go_wp2_with fail
                go_ret
                exact ⟨ret_b (by rw [hkd.out, hd.out]; simp), hb⟩
        · rcases hpl with ⟨hpl, hff⟩ | hpl
          · go_enter Tryd.func51, Tryd.ntmps51
            go_wp2_with fail
            go_loopw [6] (fun i wr => ∃ (j : Nat), j ≤ N ∧ i = .int .i64 j ∧ Hid (SM.rgt (SM.dr is j) = G) ∧ Below w.heap.size w wr ∧ Lies wr w.heap.size 42 [.int .i64 8, .int .i64 0, .string S, .slice A1 N c1]) (fun i _ => N - (intOf i).toNat)
            case atStart => exact ⟨0, by omega, rfl, Lib.hid (by rw [SM.dr_zero]; exact hG'.out), hb0, hL⟩
            case round =>
              obtain ⟨j, hj, rfl, hRj, hb, hM1⟩ := hrel
              clear hL hb0
              have y0 : wr.cell? ⟨w.heap.size, 0, none⟩ = some (.int .i64 8) := hM1.cell 0
              have y3 : wr.cell? ⟨w.heap.size, 3, none⟩ = some (.slice A1 N c1) := hM1.cell 3
              by_cases hlt : j < N
              · obtain ⟨x, hx⟩ := is.at_some j (by rw [hN'.out]; exact hlt)
                obtain ⟨b, o, B, q, rfl, hb0, p0, p1, p2, p3, hd1⟩ := (h1.below hb).at_ hx
                have hup : SM.hi x.is + 1 ≤ H := by
                  have h2 := SM.hi_at hx
                  have h3 := SM.hi_in is j
                  rw [hH'.out] at h3
                  omega
                have hR0 := hRj.out
                rw [SM.rgt_at' hx] at hR0
                have hC := Lib.hid (hP'.out j x hx wr (.slice B x.is.len q) (far - 1) hd1 (by omega) (by omega))
                obtain ⟨F, hF⟩ : ∃ F, (SM.kd x.k x.n x.s x.is && SM.rgt x.is) = F := ⟨_, rfl⟩
                rw [hF] at hR0 hC
                have hR0' := Lib.hid hR0
                unfold dtv at hC
                clear hx hF hR0 hRj hup
                cases F
                · go_wp2_with (go_at_call 51; refine (hC.out).mono ?_; rintro e w5 ⟨rfl, hb5⟩)
                  go_ret
                  exact ⟨ret_b (by rw [hkd.out, ← hR0'.out]; simp), hb.trans (hb5.mono hb.size)⟩
                · go_wp2_with (go_at_call 51; refine (hC.out).mono ?_; rintro e w5 ⟨rfl, hb5⟩; have hM3 := hM1.below hb5 hM1.lt; have hb6 : Below w.heap.size w w5 := hb.trans (hb5.mono hb.size); clear p0 p1 p2 p3 y0 y3 hb5)
                  go_roundw
                  case rel =>
                    have hR0 := hR0'.out
                    rw [Bool.true_and] at hR0
                    exact ⟨j + 1, by omega, by go_num, Lib.hid hR0, hb6, hM3⟩
                  case measure => simp [intOf]; omega
              · obtain rfl : j = N := by omega
                have hR0 := hRj.out
                rw [SM.dr_end is j (by rw [hN'.out]; exact Nat.le_refl _)] at hR0
                have hG1 : G = true := hR0.symm
                subst hG1
                go_wp2_with fail
                go_ret
                exact ⟨ret_b (by rw [hkd.out]; simp), hb⟩
          · subst hpl
            by_cases hff : far ≤ 1
            all_goals
              go_enter Tryd.func51, Tryd.ntmps51
              go_wp2_with fail
              go_loopw [6] (fun i wr => i = .int .i64 0 ∧ Below w.heap.size w wr ∧ Lies wr w.heap.size 42 [.int .i64 8, .int .i64 0, .string S, .slice A1 0 c1]) (fun _ _ => 0)
              case atStart => exact ⟨rfl, hb0, hL⟩
              case round =>
                obtain ⟨rfl, hb, hM1⟩ := hrel
                clear hL hb0
                have y0 : wr.cell? ⟨w.heap.size, 0, none⟩ = some (.int .i64 8) := hM1.cell 0
                have y3 : wr.cell? ⟨w.heap.size, 3, none⟩ = some (.slice A1 0 c1) := hM1.cell 3
                have hR0 := hG'.out
                have hG1 : G = true := by rw [← hR0]; exact SM.rgt_none hN'.out
                subst hG1
                go_wp2_with fail
                go_ret
                exact ⟨ret_b (by rw [hkd.out]; simp), hb⟩
      · obtain ⟨e1, e3⟩ := empty_no (s := S) h0
        have hkd : SM.kd k 0 s is = false := by
          rw [← fin'.out _ rfl, ← hSs'.out, decide_eq_false (em.out.2 h0), Bool.and_false, Bool.false_and]
        rw [hkd, Bool.false_and]
        clear hkd
        rcases hk with rfl | rfl | rfl
        all_goals
          go_enter Tryd.func51, Tryd.ntmps51
          go_wp2_with fail
          go_ret
          exact ⟨rfl, hb0⟩
    · have hkd : SM.kd k n s is = false := by
        rw [← fin'.out _ rfl, decide_eq_false hn, Bool.false_and, Bool.false_and]
      rw [hkd, Bool.false_and]
      clear hkd
      rcases hk with rfl | rfl | rfl
      all_goals
        go_enter Tryd.func51, Tryd.ntmps51
        go_wp2_with fail
        go_ret
        exact ⟨rfl, hb0⟩
  · by_cases h123 : k = 1 ∨ k = 2 ∨ k = 3
    · exact rr_plain k n ⟨s.toArray⟩ A1 c1 is far w hlen h123
    · by_cases h45 : k = 4 ∨ k = 5
      · exact rr_text k n ⟨s.toArray⟩ A1 c1 is far w hlen h45
      · exact rr_none k n ⟨s.toArray⟩ A1 c1 is far w (by omega)
end Go.Proofs.YthfelkcomhflnaaDoor
