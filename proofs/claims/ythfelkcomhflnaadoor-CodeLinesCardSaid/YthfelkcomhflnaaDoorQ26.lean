/- Package code: may an instruction be? isUpTo, takesParams; isRight, a kind at a time. -/
import Derived.Test.YthfelkcomhflnaaDoorQ12
import Derived.Test.YthfelkcomhflnaaDoorQ25
namespace Go.Proofs.YthfelkcomhflnaaDoor
open Go.ChangeShapes Go.WideShapes Go.ChangeAt Go.RowKit Go.Deep
open CD (Ins)

theorem went_then {w w3 w4 : World} (h : Below w.heap.size w w3) (k : Went w3 w4) : Went w w4 := h.trans (Below.mono k h.size)
theorem nothing_0 (w : World) : Calls Tryd.prog 40 #[.agg #[.int .i64 0, .int .i64 0, .string ⟨#[]⟩, .slice none 0 0]] w fun e w' => e = .returned (.bool true) ∧ Went w w' := by
  have h := nothing_any w 0 0 ⟨#[]⟩ none 0 0 (by omega)
  simpa using h
theorem full_list {S : ByteArray} (h : 1 ≤ S.size) : S.data.toList ≠ [] := fun hh => by
  have := size_len S
  rw [hh] at this
  simp at this; omega
theorem upTo_any (n m : Int) (w : World) : Calls Tryd.prog 37 #[.int .i64 n, .int .i64 m] w fun e w' => e = .returned (.bool (decide (0 ≤ n ∧ n ≤ m))) ∧ w = w' := by
  by_cases h0 : 0 ≤ n
  · go_enter Tryd.func37, Tryd.ntmps37
    go_wp2_with fail
    go_ret
    exact ⟨ret_b (by simp [h0]), rfl⟩
  · go_enter Tryd.func37, Tryd.ntmps37
    go_wp2_with fail
    go_ret
    exact ⟨ret_b (by rw [show decide (0 ≤ n) = false from decide_eq_false (by omega), Bool.false_and]), rfl⟩
theorem takes_p (b : Int) (w : World) : Calls Tryd.prog 39 #[.int .i64 b] w fun e w' => e = .returned (.bool (decide (0 ≤ b ∧ b ≤ 49 ∧ b ≠ 1))) ∧ w = w' := by
  obtain ⟨u, hu⟩ : ∃ u, decide (0 ≤ b ∧ b ≤ 49) = u := ⟨_, rfl⟩
  have hU : ∀ w', Calls Tryd.prog 37 #[.int .i64 b, .int .i64 49] w' fun e w2 => e = .returned (.bool u) ∧ w' = w2 := fun w' => by rw [← hu]; exact upTo_any b 49 w'
  have hU' := Lib.hid hU
  have hu' := Lib.hid hu
  clear hU hu
  cases u
  · go_enter Tryd.func39, Tryd.ntmps39
    go_wp2_with (go_at_call 37; refine (hU'.out _).mono ?_; rintro e w2 ⟨rfl, rfl⟩)
    go_ret
    exact ⟨ret_b (by have := of_decide_eq_false hu'.out; symm; rw [decide_eq_false_iff_not]; omega), rfl⟩
  · have h2 := of_decide_eq_true hu'.out
    have h2' := Lib.hid h2
    clear h2
    by_cases h1 : b = 1
    · subst h1
      go_enter Tryd.func39, Tryd.ntmps39
      go_wp2_with (go_at_call 37; refine (hU'.out _).mono ?_; rintro e w2 ⟨rfl, rfl⟩)
      go_ret
      exact ⟨ret_b (by simp), rfl⟩
    · go_enter Tryd.func39, Tryd.ntmps39
      go_wp2_with (go_at_call 37; refine (hU'.out _).mono ?_; rintro e w2 ⟨rfl, rfl⟩)
      go_ret
      exact ⟨ret_b (by rw [show decide (0 ≤ b ∧ b ≤ 49 ∧ b ≠ 1) = true from decide_eq_true (by have := h2'.out; omega)]; simp [h1]), rfl⟩
section
variable (w : World) (a b : Int) (S : ByteArray) (dk dn : Int) (dS : ByteArray) (I : Option Addr) (M c7 : Nat) (n : Int) (nb : Bool)
set_option maxRecDepth 100000 in
set_option maxHeartbeats 8000000 in
theorem ins1 (k : Int) (hk : k = 1) (qb : Bool) (hQ : ∀ w' : World, Below w.heap.size w w' → Calls Tryd.prog 36 #[.agg #[.int .i64 dk, .int .i64 dn, .string dS, .slice I M c7]] w' fun e w2 => e = .returned (.bool qb) ∧ Went w' w2) :
    Calls Tryd.prog 27 #[.agg #[.int .i64 k, .int .i64 a, .int .i64 b, .string S, .int .i64 dk, .int .i64 dn, .string dS, .slice I M c7], .int .i64 n] w
      fun e w' => e = .returned (.bool (qb && decide (a = 0) && decide (b = 0) && decide (S.data.toList = []))) ∧ Went w w' := by
  have hQ' := Lib.hid hQ
  clear hQ
  have hE' := Lib.hid nothing_0
  obtain ⟨se, hse0⟩ : ∃ se, decide (S.data.toList = []) = se := ⟨_, rfl⟩
  rw [hse0]
  have hse := Lib.hid hse0
  clear hse0
  obtain rfl := hk
  have hL := Lies.made w 44 #[.int .i64 1, .int .i64 a, .int .i64 b, .string S, .int .i64 dk, .int .i64 dn, .string dS, .slice I M c7]
  have hb1 : Below w.heap.size w (w.alloc (.cells #[.int .i64 1, .int .i64 a, .int .i64 b, .string S, .int .i64 dk, .int .i64 dn, .string dS, .slice I M c7] 44)) := (Below.refl _ w).alloc (Nat.le_refl _) _
  cases qb
  · go_enter Tryd.func27, Tryd.ntmps27
    go_wp2_with (first
      | (go_at_call 36
         refine (hQ'.out _ hb1).mono ?_
         rintro e w2 ⟨rfl, hb2⟩
         have hL2 := hL.below hb2 hL.lt
         have hb3 : Below w.heap.size w w2 := hb1.trans (hb2.mono hb1.size)
         have z0 := hL2.cell 0
         have z1 := hL2.cell 1
         have z2 := hL2.cell 2
         have z3 := hL2.cell 3
         have z4 := hL2.cell 4
         have z5 := hL2.cell 5
         have z6 := hL2.cell 6
         have z7 := hL2.cell 7
         have f0 := hL2.free 0
         have f1 := hL2.free 1
         have f2 := hL2.free 2
         have f3 := hL2.free 3
         have f4 := hL2.free 4
         have f5 := hL2.free 5
         have f6 := hL2.free 6
         have f7 := hL2.free 7
         have hlt := hL2.lt
         simp only [List.getElem?_cons_succ, List.getElem?_cons_zero] at z0 z1 z2 z3 z4 z5 z6 z7
         clear hb2 hL2)
      | (go_at_call 40; refine (hE'.out _).mono ?_; rintro e w9 ⟨rfl, hb9⟩))
    go_ret
    first
      | exact ⟨ret_b (by simp []), (Below.refl _ w).alloc (Nat.le_refl _) _⟩
      | exact ⟨ret_b (by simp []), went_then ((Below.refl _ w).alloc (Nat.le_refl _) _) hb9⟩
      | exact ⟨ret_b (by simp []), ((((hb3.setCell (p := ⟨w.heap.size, 4, none⟩) (Nat.le_refl _) _).setCell (p := ⟨w.heap.size, 5, none⟩) (Nat.le_refl _) _).setCell (p := ⟨w.heap.size, 6, none⟩) (Nat.le_refl _) _).setCell (p := ⟨w.heap.size, 7, none⟩) (Nat.le_refl _) _)⟩
      | exact ⟨ret_b (by simp []), went_then ((((hb3.setCell (p := ⟨w.heap.size, 4, none⟩) (Nat.le_refl _) _).setCell (p := ⟨w.heap.size, 5, none⟩) (Nat.le_refl _) _).setCell (p := ⟨w.heap.size, 6, none⟩) (Nat.le_refl _) _).setCell (p := ⟨w.heap.size, 7, none⟩) (Nat.le_refl _) _) hb9⟩
  · by_cases ha : a = 0
    · subst ha
      by_cases hb : b = 0
      · subst hb
        rcases Nat.eq_zero_or_pos S.size with hS0 | hS0
        · obtain ⟨e1, e3, e4⟩ := empty_yes (s := S) hS0
          obtain rfl : se = true := by rw [← hse.out]; exact decide_eq_true e4
          clear e4
          go_enter Tryd.func27, Tryd.ntmps27
          go_wp2_with (first
            | (go_at_call 36
               refine (hQ'.out _ hb1).mono ?_
               rintro e w2 ⟨rfl, hb2⟩
               have hL2 := hL.below hb2 hL.lt
               have hb3 : Below w.heap.size w w2 := hb1.trans (hb2.mono hb1.size)
               have z0 := hL2.cell 0
               have z1 := hL2.cell 1
               have z2 := hL2.cell 2
               have z3 := hL2.cell 3
               have z4 := hL2.cell 4
               have z5 := hL2.cell 5
               have z6 := hL2.cell 6
               have z7 := hL2.cell 7
               have f0 := hL2.free 0
               have f1 := hL2.free 1
               have f2 := hL2.free 2
               have f3 := hL2.free 3
               have f4 := hL2.free 4
               have f5 := hL2.free 5
               have f6 := hL2.free 6
               have f7 := hL2.free 7
               have hlt := hL2.lt
               simp only [List.getElem?_cons_succ, List.getElem?_cons_zero] at z0 z1 z2 z3 z4 z5 z6 z7
               clear hb2 hL2)
            | (go_at_call 40; refine (hE'.out _).mono ?_; rintro e w9 ⟨rfl, hb9⟩))
          go_ret
          first
            | exact ⟨ret_b (by simp []), (Below.refl _ w).alloc (Nat.le_refl _) _⟩
            | exact ⟨ret_b (by simp []), went_then ((Below.refl _ w).alloc (Nat.le_refl _) _) hb9⟩
            | exact ⟨ret_b (by simp []), ((((hb3.setCell (p := ⟨w.heap.size, 4, none⟩) (Nat.le_refl _) _).setCell (p := ⟨w.heap.size, 5, none⟩) (Nat.le_refl _) _).setCell (p := ⟨w.heap.size, 6, none⟩) (Nat.le_refl _) _).setCell (p := ⟨w.heap.size, 7, none⟩) (Nat.le_refl _) _)⟩
            | exact ⟨ret_b (by simp []), went_then ((((hb3.setCell (p := ⟨w.heap.size, 4, none⟩) (Nat.le_refl _) _).setCell (p := ⟨w.heap.size, 5, none⟩) (Nat.le_refl _) _).setCell (p := ⟨w.heap.size, 6, none⟩) (Nat.le_refl _) _).setCell (p := ⟨w.heap.size, 7, none⟩) (Nat.le_refl _) _) hb9⟩
        · obtain ⟨e1, e3⟩ := empty_no (s := S) hS0
          obtain rfl : se = false := by rw [← hse.out]; exact decide_eq_false (full_list (S := S) hS0)
          go_enter Tryd.func27, Tryd.ntmps27
          go_wp2_with (first
            | (go_at_call 36
               refine (hQ'.out _ hb1).mono ?_
               rintro e w2 ⟨rfl, hb2⟩
               have hL2 := hL.below hb2 hL.lt
               have hb3 : Below w.heap.size w w2 := hb1.trans (hb2.mono hb1.size)
               have z0 := hL2.cell 0
               have z1 := hL2.cell 1
               have z2 := hL2.cell 2
               have z3 := hL2.cell 3
               have z4 := hL2.cell 4
               have z5 := hL2.cell 5
               have z6 := hL2.cell 6
               have z7 := hL2.cell 7
               have f0 := hL2.free 0
               have f1 := hL2.free 1
               have f2 := hL2.free 2
               have f3 := hL2.free 3
               have f4 := hL2.free 4
               have f5 := hL2.free 5
               have f6 := hL2.free 6
               have f7 := hL2.free 7
               have hlt := hL2.lt
               simp only [List.getElem?_cons_succ, List.getElem?_cons_zero] at z0 z1 z2 z3 z4 z5 z6 z7
               clear hb2 hL2)
            | (go_at_call 40; refine (hE'.out _).mono ?_; rintro e w9 ⟨rfl, hb9⟩))
          go_ret
          first
            | exact ⟨ret_b (by simp []), (Below.refl _ w).alloc (Nat.le_refl _) _⟩
            | exact ⟨ret_b (by simp []), went_then ((Below.refl _ w).alloc (Nat.le_refl _) _) hb9⟩
            | exact ⟨ret_b (by simp []), ((((hb3.setCell (p := ⟨w.heap.size, 4, none⟩) (Nat.le_refl _) _).setCell (p := ⟨w.heap.size, 5, none⟩) (Nat.le_refl _) _).setCell (p := ⟨w.heap.size, 6, none⟩) (Nat.le_refl _) _).setCell (p := ⟨w.heap.size, 7, none⟩) (Nat.le_refl _) _)⟩
            | exact ⟨ret_b (by simp []), went_then ((((hb3.setCell (p := ⟨w.heap.size, 4, none⟩) (Nat.le_refl _) _).setCell (p := ⟨w.heap.size, 5, none⟩) (Nat.le_refl _) _).setCell (p := ⟨w.heap.size, 6, none⟩) (Nat.le_refl _) _).setCell (p := ⟨w.heap.size, 7, none⟩) (Nat.le_refl _) _) hb9⟩
      · go_enter Tryd.func27, Tryd.ntmps27
        go_wp2_with (first
          | (go_at_call 36
             refine (hQ'.out _ hb1).mono ?_
             rintro e w2 ⟨rfl, hb2⟩
             have hL2 := hL.below hb2 hL.lt
             have hb3 : Below w.heap.size w w2 := hb1.trans (hb2.mono hb1.size)
             have z0 := hL2.cell 0
             have z1 := hL2.cell 1
             have z2 := hL2.cell 2
             have z3 := hL2.cell 3
             have z4 := hL2.cell 4
             have z5 := hL2.cell 5
             have z6 := hL2.cell 6
             have z7 := hL2.cell 7
             have f0 := hL2.free 0
             have f1 := hL2.free 1
             have f2 := hL2.free 2
             have f3 := hL2.free 3
             have f4 := hL2.free 4
             have f5 := hL2.free 5
             have f6 := hL2.free 6
             have f7 := hL2.free 7
             have hlt := hL2.lt
             simp only [List.getElem?_cons_succ, List.getElem?_cons_zero] at z0 z1 z2 z3 z4 z5 z6 z7
             clear hb2 hL2)
          | (go_at_call 40; refine (hE'.out _).mono ?_; rintro e w9 ⟨rfl, hb9⟩))
        go_ret
        first
          | exact ⟨ret_b (by simp [hb]), (Below.refl _ w).alloc (Nat.le_refl _) _⟩
          | exact ⟨ret_b (by simp [hb]), went_then ((Below.refl _ w).alloc (Nat.le_refl _) _) hb9⟩
          | exact ⟨ret_b (by simp [hb]), ((((hb3.setCell (p := ⟨w.heap.size, 4, none⟩) (Nat.le_refl _) _).setCell (p := ⟨w.heap.size, 5, none⟩) (Nat.le_refl _) _).setCell (p := ⟨w.heap.size, 6, none⟩) (Nat.le_refl _) _).setCell (p := ⟨w.heap.size, 7, none⟩) (Nat.le_refl _) _)⟩
          | exact ⟨ret_b (by simp [hb]), went_then ((((hb3.setCell (p := ⟨w.heap.size, 4, none⟩) (Nat.le_refl _) _).setCell (p := ⟨w.heap.size, 5, none⟩) (Nat.le_refl _) _).setCell (p := ⟨w.heap.size, 6, none⟩) (Nat.le_refl _) _).setCell (p := ⟨w.heap.size, 7, none⟩) (Nat.le_refl _) _) hb9⟩
    · go_enter Tryd.func27, Tryd.ntmps27
      go_wp2_with (first
        | (go_at_call 36
           refine (hQ'.out _ hb1).mono ?_
           rintro e w2 ⟨rfl, hb2⟩
           have hL2 := hL.below hb2 hL.lt
           have hb3 : Below w.heap.size w w2 := hb1.trans (hb2.mono hb1.size)
           have z0 := hL2.cell 0
           have z1 := hL2.cell 1
           have z2 := hL2.cell 2
           have z3 := hL2.cell 3
           have z4 := hL2.cell 4
           have z5 := hL2.cell 5
           have z6 := hL2.cell 6
           have z7 := hL2.cell 7
           have f0 := hL2.free 0
           have f1 := hL2.free 1
           have f2 := hL2.free 2
           have f3 := hL2.free 3
           have f4 := hL2.free 4
           have f5 := hL2.free 5
           have f6 := hL2.free 6
           have f7 := hL2.free 7
           have hlt := hL2.lt
           simp only [List.getElem?_cons_succ, List.getElem?_cons_zero] at z0 z1 z2 z3 z4 z5 z6 z7
           clear hb2 hL2)
        | (go_at_call 40; refine (hE'.out _).mono ?_; rintro e w9 ⟨rfl, hb9⟩))
      go_ret
      first
        | exact ⟨ret_b (by simp [ha]), (Below.refl _ w).alloc (Nat.le_refl _) _⟩
        | exact ⟨ret_b (by simp [ha]), went_then ((Below.refl _ w).alloc (Nat.le_refl _) _) hb9⟩
        | exact ⟨ret_b (by simp [ha]), ((((hb3.setCell (p := ⟨w.heap.size, 4, none⟩) (Nat.le_refl _) _).setCell (p := ⟨w.heap.size, 5, none⟩) (Nat.le_refl _) _).setCell (p := ⟨w.heap.size, 6, none⟩) (Nat.le_refl _) _).setCell (p := ⟨w.heap.size, 7, none⟩) (Nat.le_refl _) _)⟩
        | exact ⟨ret_b (by simp [ha]), went_then ((((hb3.setCell (p := ⟨w.heap.size, 4, none⟩) (Nat.le_refl _) _).setCell (p := ⟨w.heap.size, 5, none⟩) (Nat.le_refl _) _).setCell (p := ⟨w.heap.size, 6, none⟩) (Nat.le_refl _) _).setCell (p := ⟨w.heap.size, 7, none⟩) (Nat.le_refl _) _) hb9⟩
set_option maxRecDepth 100000 in
set_option maxHeartbeats 8000000 in
theorem ins3 (k : Int) (hk : k = 3 ∨ k = 5 ∨ k = 6) (hE : ∀ w' : World, Calls Tryd.prog 40 #[.agg #[.int .i64 dk, .int .i64 dn, .string dS, .slice I M c7]] w' fun e w2 => e = .returned (.bool nb) ∧ Went w' w2) :
    Calls Tryd.prog 27 #[.agg #[.int .i64 k, .int .i64 a, .int .i64 b, .string S, .int .i64 dk, .int .i64 dn, .string dS, .slice I M c7], .int .i64 n] w
      fun e w' => e = .returned (.bool (LM.sym S.data.toList && decide (a = 0) && decide (b = 0) && nb)) ∧ Went w w' := by
  have hE' := Lib.hid hE
  clear hE
  obtain ⟨sy, hSe⟩ : ∃ sy, LM.sym S.data.toList = sy := ⟨_, rfl⟩
  have hS' := Lib.hid (fun w' : World => by have := sym_any S w'; rw [hSe] at this; exact this)
  rw [hSe]
  clear hSe
  rcases hk with rfl | rfl | rfl
  all_goals
    cases sy
    · go_enter Tryd.func27, Tryd.ntmps27
      go_wp2_with (first
        | (go_at_call 38; refine (hS'.out _).mono ?_; rintro e w2 ⟨rfl, rfl⟩)
        | (go_at_call 40; refine (hE'.out _).mono ?_; rintro e w9 ⟨rfl, hb9⟩))
      go_ret
      first
        | exact ⟨ret_b (by simp []), (Below.refl _ w).alloc (Nat.le_refl _) _⟩
        | exact ⟨ret_b (by simp []), went_then ((Below.refl _ w).alloc (Nat.le_refl _) _) hb9⟩
    · by_cases ha : a = 0
      · subst ha
        by_cases hb : b = 0
        · subst hb
          go_enter Tryd.func27, Tryd.ntmps27
          go_wp2_with (first
            | (go_at_call 38; refine (hS'.out _).mono ?_; rintro e w2 ⟨rfl, rfl⟩)
            | (go_at_call 40; refine (hE'.out _).mono ?_; rintro e w9 ⟨rfl, hb9⟩))
          go_ret
          first
            | exact ⟨ret_b (by simp []), (Below.refl _ w).alloc (Nat.le_refl _) _⟩
            | exact ⟨ret_b (by simp []), went_then ((Below.refl _ w).alloc (Nat.le_refl _) _) hb9⟩
        · go_enter Tryd.func27, Tryd.ntmps27
          go_wp2_with (first
            | (go_at_call 38; refine (hS'.out _).mono ?_; rintro e w2 ⟨rfl, rfl⟩)
            | (go_at_call 40; refine (hE'.out _).mono ?_; rintro e w9 ⟨rfl, hb9⟩))
          go_ret
          first
            | exact ⟨ret_b (by simp [hb]), (Below.refl _ w).alloc (Nat.le_refl _) _⟩
            | exact ⟨ret_b (by simp [hb]), went_then ((Below.refl _ w).alloc (Nat.le_refl _) _) hb9⟩
      · go_enter Tryd.func27, Tryd.ntmps27
        go_wp2_with (first
          | (go_at_call 38; refine (hS'.out _).mono ?_; rintro e w2 ⟨rfl, rfl⟩)
          | (go_at_call 40; refine (hE'.out _).mono ?_; rintro e w9 ⟨rfl, hb9⟩))
        go_ret
        first
          | exact ⟨ret_b (by simp [ha]), (Below.refl _ w).alloc (Nat.le_refl _) _⟩
          | exact ⟨ret_b (by simp [ha]), went_then ((Below.refl _ w).alloc (Nat.le_refl _) _) hb9⟩
set_option maxRecDepth 100000 in
set_option maxHeartbeats 8000000 in
theorem ins0 (k : Int) (hk : k < 1 ∨ 14 < k) :
    Calls Tryd.prog 27 #[.agg #[.int .i64 k, .int .i64 a, .int .i64 b, .string S, .int .i64 dk, .int .i64 dn, .string dS, .slice I M c7], .int .i64 n] w
      fun e w' => e = .returned (.bool false) ∧ Went w w' := by
  have k1 : (k == 1) = false := by rw [beq_eq_false_iff_ne]; omega
  have q1 : ¬ k = 1 := by omega
  have k2 : (k == 2) = false := by rw [beq_eq_false_iff_ne]; omega
  have q2 : ¬ k = 2 := by omega
  have k3 : (k == 3) = false := by rw [beq_eq_false_iff_ne]; omega
  have q3 : ¬ k = 3 := by omega
  have k4 : (k == 4) = false := by rw [beq_eq_false_iff_ne]; omega
  have q4 : ¬ k = 4 := by omega
  have k5 : (k == 5) = false := by rw [beq_eq_false_iff_ne]; omega
  have q5 : ¬ k = 5 := by omega
  have k6 : (k == 6) = false := by rw [beq_eq_false_iff_ne]; omega
  have q6 : ¬ k = 6 := by omega
  have k7 : (k == 7) = false := by rw [beq_eq_false_iff_ne]; omega
  have q7 : ¬ k = 7 := by omega
  have k8 : (k == 8) = false := by rw [beq_eq_false_iff_ne]; omega
  have q8 : ¬ k = 8 := by omega
  have k9 : (k == 9) = false := by rw [beq_eq_false_iff_ne]; omega
  have q9 : ¬ k = 9 := by omega
  have k10 : (k == 10) = false := by rw [beq_eq_false_iff_ne]; omega
  have q10 : ¬ k = 10 := by omega
  have k11 : (k == 11) = false := by rw [beq_eq_false_iff_ne]; omega
  have q11 : ¬ k = 11 := by omega
  have k12 : (k == 12) = false := by rw [beq_eq_false_iff_ne]; omega
  have q12 : ¬ k = 12 := by omega
  have k13 : (k == 13) = false := by rw [beq_eq_false_iff_ne]; omega
  have q13 : ¬ k = 13 := by omega
  have k14 : (k == 14) = false := by rw [beq_eq_false_iff_ne]; omega
  have q14 : ¬ k = 14 := by omega
  go_enter Tryd.func27, Tryd.ntmps27
  go_wp2_with fail
  go_ret
  exact ⟨rfl, (Below.refl _ w).alloc (Nat.le_refl _) _⟩
end
end Go.Proofs.YthfelkcomhflnaaDoor
