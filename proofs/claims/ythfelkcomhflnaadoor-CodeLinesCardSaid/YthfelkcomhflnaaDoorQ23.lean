/- What package read finds right: a kind, all of a datum, its parts; Check. -/
import Derived.Test.YthfelkcomhflnaaDoorQ22
namespace Go.Proofs.YthfelkcomhflnaaDoor
open Go.ChangeShapes Go.WideShapes Go.ChangeAt Go.RowKit

theorem emp_yes {S : ByteArray} (h : S.data.toList = []) : S = ⟨#[]⟩ := by
  cases S; rename_i d; cases d; simp at h; rw [h]
set_option maxRecDepth 100000 in
set_option maxHeartbeats 2000000 in
theorem isKind_dat (w : World) (k n : Int) (S : ByteArray) (A : Option Addr) (c : Nat) (is : RM.Dl) (h : In w (.slice A is.len c) is) :
    Calls Tryd.prog 64 #[.agg #[.int .i64 k, .int .i64 n, .string S, .slice A is.len c]] w fun e w' => e = .returned (.bool (SM.kd k n S.data.toList is)) ∧ Went w w' := by
  have hlen := h.len
  have hD := Lib.hid (fun (w' : World) (hb : Below w.heap.size w w') => isDotted_dat w' A c is (h.below hb))
  obtain ⟨d, hd⟩ : ∃ d, SM.dt is = d := ⟨_, rfl⟩
  obtain ⟨N, hN⟩ : ∃ N, is.len = N := ⟨_, rfl⟩
  rw [hd, hN] at hD
  have hd' := Lib.hid hd
  have hN' := Lib.hid hN
  rw [hN] at hlen ⊢
  clear hd hN h
  have hb0 : Below w.heap.size w (w.alloc (.cells #[.int .i64 k, .int .i64 n, .string S, .slice A N c] 42)) := went_box _ _ _
  have hL := Lies.made w 42 #[.int .i64 k, .int .i64 n, .string S, .slice A N c]
  have hs : S.data.toList = [] ∨ S.data.toList ≠ [] := by
    cases S.data.toList <;> simp
  have hbig : ∀ b : Bool, (1 ≤ S.size → b = false) → (S.size = 0 → b = true) → b = decide (S.data.toList = []) := by
    intro b h1 h2
    by_cases h : S.size = 0
    · rw [h2 h, decide_eq_true]
      exact List.eq_nil_of_length_eq_zero (by rw [size_len]; exact h)
    · rw [h1 (by omega), decide_eq_false]
      intro hh
      have := size_len S
      rw [hh] at this
      exact h (by simpa using this.symm)
  by_cases h123 : k = 1 ∨ k = 2 ∨ k = 3
  · obtain ⟨m, hm⟩ : ∃ m, SM.nm k n = m := ⟨_, rfl⟩
    have hI := Lib.hid (fun w' => isNumber_dat k n S A N c w')
    rw [hm] at hI
    have fin : ∀ b : Bool, b = (m && (decide (S.data.toList = []) && decide (N = 0))) → b = SM.kd k n S.data.toList is := by
      rintro b rfl
      rw [← hm, ← hN'.out]
      rcases h123 with rfl | rfl | rfl
      · rw [SM.kd, if_pos rfl, SM.nm, if_pos rfl, Bool.and_comm, Bool.and_comm (decide (_ = [])), Bool.and_assoc]
      · rw [SM.kd, if_neg (by decide), if_pos rfl, SM.nm, if_neg (by decide), if_pos rfl, Bool.and_comm, Bool.and_comm (decide (_ = [])), Bool.and_assoc]
      · rw [SM.kd, if_neg (by decide), if_neg (by decide), if_pos rfl, SM.nm, if_neg (by decide), if_neg (by decide), Bool.and_comm, Bool.and_comm (decide (_ = [])), Bool.and_assoc]
    have fin' := Lib.hid fin
    have hbig' := Lib.hid hbig
    clear fin hbig hm hd' hD hs
    rcases Nat.eq_zero_or_pos S.size with h1 | h1
    · obtain ⟨e1, e3, e4⟩ := empty_yes (s := S) h1
      have e4' := Lib.hid e4
      clear e4
      rcases Nat.eq_zero_or_pos N with rfl | h0 <;> cases m <;> rcases h123 with rfl | rfl | rfl
      all_goals
        go_enter Tryd.func64, Tryd.ntmps64
        go_wp2_with (go_at_call 72; refine (hI.out _).mono ?_; rintro e w' ⟨rfl, hb⟩; have hM := hL.below hb hL.lt; have y1 := hM.cell 1; have y2 := hM.cell 2; have y3 := hM.cell 3; simp only [List.getElem?_cons_succ, List.getElem?_cons_zero] at y1 y2 y3; clear hM)
        go_ret
        exact ⟨ret_b (fin'.out _ (by rw [e4'.out]; simp; first | done | (rw [decide_eq_false (by omega), beq_eq_false_iff_ne]; omega))), hb0.trans (hb.mono (by simp))⟩
    · obtain ⟨e1, e3⟩ := empty_no (s := S) h1
      rcases Nat.eq_zero_or_pos N with rfl | h0 <;> cases m <;> rcases h123 with rfl | rfl | rfl
      all_goals
        go_enter Tryd.func64, Tryd.ntmps64
        go_wp2_with (go_at_call 72; refine (hI.out _).mono ?_; rintro e w' ⟨rfl, hb⟩; have hM := hL.below hb hL.lt; have y1 := hM.cell 1; have y2 := hM.cell 2; have y3 := hM.cell 3; simp only [List.getElem?_cons_succ, List.getElem?_cons_zero] at y1 y2 y3; clear hM)
        go_ret
        exact ⟨ret_b (fin'.out _ (by rw [← hbig'.out false (fun _ => rfl) (fun h => by omega)]; simp)), hb0.trans (hb.mono (by simp))⟩
  · by_cases h45 : k = 4 ∨ k = 5
    · obtain ⟨m, hm⟩ : ∃ m, SM.tx k S.data.toList = m := ⟨_, rfl⟩
      have hI := Lib.hid (fun w' => isText_dat k n S A N c w')
      rw [hm] at hI
      have fin : ∀ b : Bool, b = (m && (decide (n = 0) && decide (N = 0))) → b = SM.kd k n S.data.toList is := by
        rintro b rfl
        rw [← hm, ← hN'.out]
        rcases h45 with rfl | rfl
        · rw [SM.kd, if_neg (by decide), if_neg (by decide), if_neg (by decide), if_pos rfl, SM.tx, if_neg (by decide), Bool.and_comm, Bool.and_comm (decide (n = 0))]
        · rw [SM.kd, if_neg (by decide), if_neg (by decide), if_neg (by decide), if_neg (by decide), if_pos rfl, SM.tx, if_pos rfl, Bool.and_comm, Bool.and_comm (decide (n = 0))]
      have fin' := Lib.hid fin
      clear fin hbig hm hd' hD hs
      by_cases hn : n = 0
      · subst hn
        rcases Nat.eq_zero_or_pos N with rfl | h0 <;> cases m <;> rcases h45 with rfl | rfl
        all_goals
          go_enter Tryd.func64, Tryd.ntmps64
          go_wp2_with (go_at_call 73; refine (hI.out _).mono ?_; rintro e w' ⟨rfl, hb⟩; have hM := hL.below hb hL.lt; have y1 := hM.cell 1; have y2 := hM.cell 2; have y3 := hM.cell 3; simp only [List.getElem?_cons_succ, List.getElem?_cons_zero] at y1 y2 y3; clear hM)
          go_ret
          exact ⟨ret_b (fin'.out _ (by simp; first | done | (rw [decide_eq_false (by omega), beq_eq_false_iff_ne]; omega))), hb0.trans (hb.mono (by simp))⟩
      · cases m <;> rcases h45 with rfl | rfl
        all_goals
          go_enter Tryd.func64, Tryd.ntmps64
          go_wp2_with (go_at_call 73; refine (hI.out _).mono ?_; rintro e w' ⟨rfl, hb⟩; have hM := hL.below hb hL.lt; have y1 := hM.cell 1; have y2 := hM.cell 2; have y3 := hM.cell 3; simp only [List.getElem?_cons_succ, List.getElem?_cons_zero] at y1 y2 y3; clear hM)
          go_ret
          exact ⟨ret_b (fin'.out _ (by simp [hn])), hb0.trans (hb.mono (by simp))⟩
    · by_cases h678 : k = 6 ∨ k = 7 ∨ k = 8
      · have fin : ∀ b : Bool, b = ((decide (n = 0) && decide (S.data.toList = [])) && (decide (k ≠ 7) || d)) → b = SM.kd k n S.data.toList is := by
          rintro b rfl
          rw [← hd'.out]
          rcases h678 with rfl | rfl | rfl
          · simp [SM.kd]
          · simp [SM.kd, SM.dt, Bool.and_assoc]
          · simp [SM.kd]
        have fin' := Lib.hid fin
        have hbig' := Lib.hid hbig
        clear fin hbig hd' hs
        by_cases hn : n = 0
        · subst hn
          rcases Nat.eq_zero_or_pos S.size with h1 | h1
          · obtain ⟨e1, e3, e4⟩ := empty_yes (s := S) h1
            have e4' := Lib.hid e4
            clear e4
            cases d <;> rcases h678 with rfl | rfl | rfl
            all_goals
              go_enter Tryd.func64, Tryd.ntmps64
              go_wp2_with (go_at_call 74; refine (hD.out _ hb0).mono ?_; rintro e w' ⟨rfl, rfl⟩)
              go_ret
              exact ⟨ret_b (fin'.out _ (by rw [e4'.out]; simp)), hb0⟩
          · obtain ⟨e1, e3⟩ := empty_no (s := S) h1
            cases d <;> rcases h678 with rfl | rfl | rfl
            all_goals
              go_enter Tryd.func64, Tryd.ntmps64
              go_wp2_with (go_at_call 74; refine (hD.out _ hb0).mono ?_; rintro e w' ⟨rfl, rfl⟩)
              go_ret
              exact ⟨ret_b (fin'.out _ (by rw [← hbig'.out false (fun _ => rfl) (fun h => by omega)]; simp)), hb0⟩
        · cases d <;> rcases h678 with rfl | rfl | rfl
          all_goals
            go_enter Tryd.func64, Tryd.ntmps64
            go_wp2_with (go_at_call 74; refine (hD.out _ hb0).mono ?_; rintro e w' ⟨rfl, rfl⟩)
            go_ret
            exact ⟨ret_b (fin'.out _ (by simp [hn])), hb0⟩
      · have hf : SM.kd k n S.data.toList is = false := by
          unfold SM.kd
          rw [if_neg (by omega), if_neg (by omega), if_neg (by omega), if_neg (by omega), if_neg (by omega), if_neg (by omega), if_neg (by omega)]
        rw [hf]
        clear hf hbig hd' hD hs
        go_enter Tryd.func64, Tryd.ntmps64
        go_wp2_with fail
        go_ret
        exact ⟨rfl, hb0⟩
end Go.Proofs.YthfelkcomhflnaaDoor
