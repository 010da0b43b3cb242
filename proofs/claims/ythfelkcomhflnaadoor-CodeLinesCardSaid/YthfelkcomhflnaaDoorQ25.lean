/- Package datum: is a datum nothing at all (Nothing); may it be quoted (Quotable). -/
import Derived.Test.YthfelkcomhflnaaDoorQ9
import Derived.Test.YthfelkcomhflnaaDoorQ24
namespace Go.Proofs.YthfelkcomhflnaaDoor
open Go.ChangeShapes Go.WideShapes Go.ChangeAt Go.RowKit Go.Deep
theorem went_box9 (w : World) (vs : Array Value) (t : TypeId) : Went w (w.alloc (.cells vs t)) := (Below.refl _ w).alloc (Nat.le_refl _) _
set_option maxRecDepth 100000 in
theorem nothing_any (w : World) (k n : Int) (S : ByteArray) (A : Option Addr) (L c : Nat) (hL : L ≤ 9223372036854775807) :
    Calls Tryd.prog 40 #[.agg #[.int .i64 k, .int .i64 n, .string S, .slice A L c]] w fun e w' => e = .returned (.bool (decide (k = 0) && decide (n = 0) && decide (S.data.toList = []) && decide (L = 0))) ∧ Went w w' := by
  by_cases h1 : k = 0
  · subst h1
    by_cases h2 : n = 0
    · subst h2
      rcases Nat.eq_zero_or_pos S.size with h3 | h3
      · obtain ⟨e1, e3, e4⟩ := empty_yes (s := S) h3
        have e4' := Lib.hid e4
        clear e4
        rcases Nat.eq_zero_or_pos L with rfl | h0
        all_goals
          go_enter Tryd.func40, Tryd.ntmps40
          go_wp2_with fail
          go_ret
          exact ⟨ret_b (by rw [e4'.out]; simp; first | done | (rw [decide_eq_false (by omega), beq_eq_false_iff_ne]; omega)), went_box9 _ _ _⟩
      · obtain ⟨e1, e3⟩ := empty_no (s := S) h3
        have e4 : S.data.toList ≠ [] := fun h => by
          have := size_len S
          rw [h] at this
          simp at this; omega
        have e4' := Lib.hid e4
        clear e4
        go_enter Tryd.func40, Tryd.ntmps40
        go_wp2_with fail
        go_ret
        exact ⟨ret_b (by rw [decide_eq_false e4'.out]; simp), went_box9 _ _ _⟩
    · go_enter Tryd.func40, Tryd.ntmps40
      go_wp2_with fail
      go_ret
      exact ⟨ret_b (by simp [h2]), went_box9 _ _ _⟩
  · go_enter Tryd.func40, Tryd.ntmps40
    go_wp2_with fail
    go_ret
    exact ⟨ret_b (by simp [h1]), went_box9 _ _ _⟩
set_option maxRecDepth 100000 in
set_option maxHeartbeats 2000000 in
theorem quotable_any (x : RM.Dm) (w : World) (A : Option Addr) (c : Nat) (h : In w (.slice A x.is.len c) x.is) :
    Calls Tryd.prog 36 #[dtv x (.slice A x.is.len c)] w fun e w' => e = .returned (.bool (TM.quo x)) ∧ Went w w' := by
  have hlen := h.len
  have hq : ∀ n, (x.k = 0 → x.n ≠ 1 → n = x.n) → (x.k = 0 → x.n = 1 → n = 0) → (x.k ≠ 0 → n = x.n) →
      ((decide (x.k = 0) && decide (n = 0) && decide (x.s = []) && decide (x.is.len = 0)) || SM.okd ⟨x.k, n, x.s, x.is⟩) = TM.quo x := by
    intro n h1 h2 h3
    by_cases h0 : x.k = 0
    · have e : SM.okd ⟨x.k, n, x.s, x.is⟩ = false := by
        unfold SM.okd SM.kd
        simp [h0]
      rw [e]
      unfold TM.quo
      rw [if_pos h0]
      by_cases h4 : x.n = 1
      · rw [h2 h0 h4]; simp [h0, h4]
      · rw [h1 h0 h4]; simp [h0, h4]
    · rw [h3 h0]
      unfold TM.quo
      rw [if_neg h0]
      simp [h0]
  obtain ⟨n1, h1, h2, h3⟩ : ∃ n1, (x.k = 0 → x.n ≠ 1 → n1 = x.n) ∧ (x.k = 0 → x.n = 1 → n1 = 0) ∧ (x.k ≠ 0 → n1 = x.n) := by
    by_cases h : x.k = 0 ∧ x.n = 1
    · exact ⟨0, fun _ h2 => absurd h.2 h2, fun _ _ => rfl, fun h2 => absurd h.1 h2⟩
    · exact ⟨x.n, fun _ _ => rfl, fun ha hb => absurd ⟨ha, hb⟩ h, fun _ => rfl⟩
  have hqq := hq n1 h1 h2 h3
  have hC := Lib.hid (fun (w' : World) (hb : Below w.heap.size w w') => check_any ⟨x.k, n1, x.s, x.is⟩ w' (.slice A x.is.len c) (h.below hb))
  have hE := Lib.hid (fun (w' : World) => nothing_any w' x.k n1 ⟨x.s.toArray⟩ A x.is.len c hlen)
  obtain ⟨q, hqe⟩ : ∃ q, TM.quo x = q := ⟨_, rfl⟩
  rw [hqe] at hqq ⊢
  simp only at hE
  obtain ⟨nb, hnb⟩ : ∃ nb, (decide (x.k = 0) && decide (n1 = 0) && decide (x.s = []) && decide (x.is.len = 0)) = nb := ⟨_, rfl⟩
  obtain ⟨cb, hcb⟩ : ∃ cb, SM.okd ⟨x.k, n1, x.s, x.is⟩ = cb := ⟨_, rfl⟩
  rw [hnb] at hqq hE
  rw [hcb] at hqq hC
  unfold dtv at hC ⊢
  simp only at hC ⊢
  generalize x.is.len = N at hC hE hlen ⊢
  generalize (⟨x.s.toArray⟩ : ByteArray) = S at hC hE ⊢
  generalize x.k = k at hC hE h1 h2 h3 ⊢
  generalize x.n = n at h1 h2 h3 ⊢
  clear hnb hcb hqe hq h
  subst hqq
  have hL := Lies.made w 42 #[.int .i64 k, .int .i64 n, .string S, .slice A N c]
  have hb0 : Below w.heap.size w (w.alloc (.cells #[.int .i64 k, .int .i64 n, .string S, .slice A N c] 42)) := (Below.refl _ w).alloc (Nat.le_refl _) _
  by_cases h0 : k = 0 ∧ n = 1
  · obtain ⟨rfl, rfl⟩ := h0
    obtain rfl := h2 rfl rfl
    clear h1 h2 h3
    have hL2 := Lies.made w 42 #[.int .i64 0, .int .i64 0, .string S, .slice A N c]
    have hb1 : Below w.heap.size w (w.alloc (.cells #[.int .i64 0, .int .i64 0, .string S, .slice A N c] 42)) := (Below.refl _ w).alloc (Nat.le_refl _) _
    clear hL hb0
    cases nb <;> cases cb
    all_goals
      unfold chv at hC
      go_enter Tryd.func36, Tryd.ntmps36
      go_wp2_with (first
        | (go_at_call 40
           refine (hE.out _).mono ?_
           rintro e w2 ⟨rfl, hb2⟩
           have hL3 := hL2.below hb2 hL2.lt
           have hb3 : Below w.heap.size w w2 := hb1.trans (hb2.mono hb1.size)
           have z0 := hL3.cell 0
           have z1 := hL3.cell 1
           have z2 := hL3.cell 2
           have z3 := hL3.cell 3
           simp only [List.getElem?_cons_succ, List.getElem?_cons_zero] at z0 z1 z2 z3
           clear hb2)
        | (go_at_call 47
           refine (hC.out _ hb3).mono ?_
           rintro e w4 ⟨rfl, hb4⟩
           have hb5 : Below w.heap.size w w4 := hb3.trans (hb4.mono hb3.size)
           clear hb4))
      go_ret
      exact ⟨rfl, by assumption⟩
  · have hnn : n1 = n := by
      by_cases h4 : k = 0
      · exact h1 h4 (fun h5 => h0 ⟨h4, h5⟩)
      · exact h3 h4
    subst hnn
    clear h1 h2 h3
    have y0 := hL.cell 0
    have y1 := hL.cell 1
    have y2 := hL.cell 2
    have y3 := hL.cell 3
    simp only [List.getElem?_cons_succ, List.getElem?_cons_zero] at y0 y1 y2 y3
    by_cases h6 : k = 0
    · subst h6
      have h7 : ¬ n1 = 1 := fun h => h0 ⟨rfl, h⟩
      clear h0
      cases nb <;> cases cb
      all_goals
        unfold chv at hC
        go_enter Tryd.func36, Tryd.ntmps36
        go_wp2_with (first
          | (go_at_call 40
             refine (hE.out _).mono ?_
             rintro e w2 ⟨rfl, hb2⟩
             have hL3 := hL.below hb2 hL.lt
             have hb3 : Below w.heap.size w w2 := hb0.trans (hb2.mono hb0.size)
             have z0 := hL3.cell 0
             have z1 := hL3.cell 1
             have z2 := hL3.cell 2
             have z3 := hL3.cell 3
             simp only [List.getElem?_cons_succ, List.getElem?_cons_zero] at z0 z1 z2 z3
             clear hb2)
          | (go_at_call 47
             refine (hC.out _ hb3).mono ?_
             rintro e w4 ⟨rfl, hb4⟩
             have hb5 : Below w.heap.size w w4 := hb3.trans (hb4.mono hb3.size)
             clear hb4))
        go_ret
        exact ⟨rfl, by assumption⟩
    · clear h0
      cases nb <;> cases cb
      all_goals
        unfold chv at hC
        go_enter Tryd.func36, Tryd.ntmps36
        go_wp2_with (first
          | (go_at_call 40
             refine (hE.out _).mono ?_
             rintro e w2 ⟨rfl, hb2⟩
             have hL3 := hL.below hb2 hL.lt
             have hb3 : Below w.heap.size w w2 := hb0.trans (hb2.mono hb0.size)
             have z0 := hL3.cell 0
             have z1 := hL3.cell 1
             have z2 := hL3.cell 2
             have z3 := hL3.cell 3
             simp only [List.getElem?_cons_succ, List.getElem?_cons_zero] at z0 z1 z2 z3
             clear hb2)
          | (go_at_call 47
             refine (hC.out _ hb3).mono ?_
             rintro e w4 ⟨rfl, hb4⟩
             have hb5 : Below w.heap.size w w4 := hb3.trans (hb4.mono hb3.size)
             clear hb4))
        go_ret
        exact ⟨rfl, by assumption⟩
end Go.Proofs.YthfelkcomhflnaaDoor
