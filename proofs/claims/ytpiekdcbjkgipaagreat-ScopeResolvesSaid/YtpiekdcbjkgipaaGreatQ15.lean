/- Package term: are a term's fields as its kind asks for? A kind at a time. -/
import Derived.Test.YtpiekdcbjkgipaaGreatQ14
namespace Go.Proofs.YtpiekdcbjkgipaaGreat
open Go.ChangeShapes Go.WideShapes Go.ChangeAt Go.RowKit Go.Deep
open TM (Tl Tm)

section
variable (w : World) (q m : Nat) (met bd : List Int) (n : Int) (S : ByteArray) (P : Option Addr) (L p : Nat) (d : RM.Dm) (I : Option Addr) (c7 : Nat) (A : Option Addr) (N c : Nat)
set_option maxRecDepth 100000 in
set_option maxHeartbeats 8000000 in
theorem fit3 (hd : In w (.slice I d.is.len c7) d.is) (hN : N ≤ 9223372036854775807) (hP : L ≤ 9223372036854775807) :
    Calls Tryz.prog 69 #[.map (some q), .agg #[.int .i64 3, .int .i64 n, .string S, .slice P L p, .int .i64 d.k, .int .i64 d.n, .string ⟨d.s.toArray⟩, .slice I d.is.len c7, .slice A N c]] w
      fun e w' => e = .returned (.bool (decide (N = 0) && decide (L = 0) && decide (n = 0) && LM.sym S.data.toList && TM.nod d)) ∧ Went w w' := by
  have hM := hd.len
  have hE : Hid (∀ w' : World, Calls Tryz.prog 83 #[.agg #[.int .i64 d.k, .int .i64 d.n, .string ⟨d.s.toArray⟩, .slice I d.is.len c7]] w' fun e w'' => e = .returned (.bool (TM.nod d)) ∧ Went w' w'') := Lib.hid (fun w' => nothing_any w' d.k d.n ⟨d.s.toArray⟩ I d.is.len c7 hM)
  obtain ⟨db, hdb⟩ : ∃ db, TM.nod d = db := ⟨_, rfl⟩
  rw [hdb] at hE ⊢
  have hQ := Lib.hid (sym_any S)
  obtain ⟨qb, hqb⟩ : ∃ qb, LM.sym S.data.toList = qb := ⟨_, rfl⟩
  rw [hqb] at hQ ⊢
  generalize d.is.len = M at hd hE hM ⊢
  generalize d.k = dk at hE ⊢
  generalize d.n = dn at hE ⊢
  generalize (⟨d.s.toArray⟩ : ByteArray) = dS at hE ⊢
  have hL := Lies.made w 28 #[.int .i64 3, .int .i64 n, .string S, .slice P L p, .int .i64 dk, .int .i64 dn, .string dS, .slice I M c7, .slice A N c]
  have hb1 : Below w.heap.size w (w.alloc (.cells #[.int .i64 3, .int .i64 n, .string S, .slice P L p, .int .i64 dk, .int .i64 dn, .string dS, .slice I M c7, .slice A N c] 28)) := (Below.refl _ w).alloc (Nat.le_refl _) _
  clear hd hdb hM hqb
  rcases Nat.eq_zero_or_pos N with rfl | h0
  · cases qb
    · go_enter Tryz.func69, Tryz.ntmps69
      go_wp2_with (first
        | (go_at_call 81; refine (hQ.out _).mono ?_; rintro e w2 ⟨rfl, rfl⟩)
        | (go_at_call 83; refine (hE.out _).mono ?_; rintro e w9 ⟨rfl, hb9⟩))
      go_ret
      first
        | exact ⟨ret_b (by simp), (Below.refl _ w).alloc (Nat.le_refl _) _⟩
        | exact ⟨ret_b (by simp), went_chain ((Below.refl _ w).alloc (Nat.le_refl _) _) hb9⟩
    · by_cases hn0 : n = 0
      · subst hn0
        rcases Nat.eq_zero_or_pos L with rfl | hp0
        · cases db
          · go_enter Tryz.func69, Tryz.ntmps69
            go_wp2_with (first
              | (go_at_call 81; refine (hQ.out _).mono ?_; rintro e w2 ⟨rfl, rfl⟩)
              | (go_at_call 83; refine (hE.out _).mono ?_; rintro e w9 ⟨rfl, hb9⟩))
            go_ret
            first
              | exact ⟨ret_b (by simp), (Below.refl _ w).alloc (Nat.le_refl _) _⟩
              | exact ⟨ret_b (by simp), went_chain ((Below.refl _ w).alloc (Nat.le_refl _) _) hb9⟩
          · go_enter Tryz.func69, Tryz.ntmps69
            go_wp2_with (first
              | (go_at_call 81; refine (hQ.out _).mono ?_; rintro e w2 ⟨rfl, rfl⟩)
              | (go_at_call 83; refine (hE.out _).mono ?_; rintro e w9 ⟨rfl, hb9⟩))
            go_ret
            first
              | exact ⟨ret_b (by simp), (Below.refl _ w).alloc (Nat.le_refl _) _⟩
              | exact ⟨ret_b (by simp), went_chain ((Below.refl _ w).alloc (Nat.le_refl _) _) hb9⟩
        · have ep : ((L : Int) == 0) = false := by rw [beq_eq_false_iff_ne]; omega
          have pf : ¬ L = 0 := by omega
          go_enter Tryz.func69, Tryz.ntmps69
          go_wp2_with (first
            | (go_at_call 81; refine (hQ.out _).mono ?_; rintro e w2 ⟨rfl, rfl⟩)
            | (go_at_call 83; refine (hE.out _).mono ?_; rintro e w9 ⟨rfl, hb9⟩))
          go_ret
          first
            | exact ⟨ret_b (by simp [pf]), (Below.refl _ w).alloc (Nat.le_refl _) _⟩
            | exact ⟨ret_b (by simp [pf]), went_chain ((Below.refl _ w).alloc (Nat.le_refl _) _) hb9⟩
      · go_enter Tryz.func69, Tryz.ntmps69
        go_wp2_with (first
          | (go_at_call 81; refine (hQ.out _).mono ?_; rintro e w2 ⟨rfl, rfl⟩)
          | (go_at_call 83; refine (hE.out _).mono ?_; rintro e w9 ⟨rfl, hb9⟩))
        go_ret
        first
          | exact ⟨ret_b (by simp [hn0]), (Below.refl _ w).alloc (Nat.le_refl _) _⟩
          | exact ⟨ret_b (by simp [hn0]), went_chain ((Below.refl _ w).alloc (Nat.le_refl _) _) hb9⟩
  · have e5 : ((N : Int) == 0) = false := by rw [beq_eq_false_iff_ne]; omega
    have kf : ¬ N = 0 := by omega
    go_enter Tryz.func69, Tryz.ntmps69
    go_wp2_with (first
      | (go_at_call 81; refine (hQ.out _).mono ?_; rintro e w2 ⟨rfl, rfl⟩)
      | (go_at_call 83; refine (hE.out _).mono ?_; rintro e w9 ⟨rfl, hb9⟩))
    go_ret
    first
      | exact ⟨ret_b (by simp), (Below.refl _ w).alloc (Nat.le_refl _) _⟩
      | exact ⟨ret_b (by simp [kf]), went_chain ((Below.refl _ w).alloc (Nat.le_refl _) _) hb9⟩
set_option maxRecDepth 100000 in
set_option maxHeartbeats 8000000 in
theorem fit4 (hd : In w (.slice I d.is.len c7) d.is) (hN : N ≤ 9223372036854775807) (hP : L ≤ 9223372036854775807) (hI : Im w q m (TM.ls met bd)) (h64 : b64 n) :
    Calls Tryz.prog 69 #[.map (some q), .agg #[.int .i64 4, .int .i64 n, .string S, .slice P L p, .int .i64 d.k, .int .i64 d.n, .string ⟨d.s.toArray⟩, .slice I d.is.len c7, .slice A N c]] w
      fun e w' => e = .returned (.bool (decide (N = 1) && decide (S.data.toList = []) && decide (L = 0) && bd.contains n && TM.nod d)) ∧ Went w w' := by
  have hM := hd.len
  have hE : Hid (∀ w' : World, Calls Tryz.prog 83 #[.agg #[.int .i64 d.k, .int .i64 d.n, .string ⟨d.s.toArray⟩, .slice I d.is.len c7]] w' fun e w'' => e = .returned (.bool (TM.nod d)) ∧ Went w' w'') := Lib.hid (fun w' => nothing_any w' d.k d.n ⟨d.s.toArray⟩ I d.is.len c7 hM)
  obtain ⟨db, hdb⟩ : ∃ db, TM.nod d = db := ⟨_, rfl⟩
  rw [hdb] at hE ⊢
  generalize d.is.len = M at hd hE hM ⊢
  generalize d.k = dk at hE ⊢
  generalize d.n = dn at hE ⊢
  generalize (⟨d.s.toArray⟩ : ByteArray) = dS at hE ⊢
  obtain ⟨se, hse0⟩ : ∃ se, decide (S.data.toList = []) = se := ⟨_, rfl⟩
  rw [hse0]
  have hse := Lib.hid hse0
  clear hse0
  have hL := Lies.made w 28 #[.int .i64 4, .int .i64 n, .string S, .slice P L p, .int .i64 dk, .int .i64 dn, .string dS, .slice I M c7, .slice A N c]
  have hb1 : Below w.heap.size w (w.alloc (.cells #[.int .i64 4, .int .i64 n, .string S, .slice P L p, .int .i64 dk, .int .i64 dn, .string dS, .slice I M c7, .slice A N c] 28)) := (Below.refl _ w).alloc (Nat.le_refl _) _
  have hlk := (hI.below ((Below.refl _ w).alloc (Nat.le_refl _) (.cells #[.int .i64 4, .int .i64 n, .string S, .slice P L p, .int .i64 dk, .int .i64 dn, .string dS, .slice I M c7, .slice A N c] 28))).look (t := 96) Tryz.underlying96 h64
  have hsv := Lib.hid (TM.ls_one (met := met) (bd := bd) (p := n))
  generalize TM.ls met bd n = sv at hlk hsv
  generalize bd.contains n = cn at hsv ⊢
  clear hI
  clear hd hdb hM
  by_cases kf : N = 1
  · subst kf
    cases cn
    · have hs : ¬ sv = 1 := fun h => by have := hsv.out.1 h; simp at this
      go_enter Tryz.func69, Tryz.ntmps69
      go_wp2_with (first
        | (go_at_call 83; refine (hE.out _).mono ?_; rintro e w9 ⟨rfl, hb9⟩))
      go_ret
      first
        | exact ⟨ret_b (by simp), (Below.refl _ w).alloc (Nat.le_refl _) _⟩
        | exact ⟨ret_b (by simp), went_chain ((Below.refl _ w).alloc (Nat.le_refl _) _) hb9⟩
    · obtain rfl : sv = 1 := hsv.out.2 rfl
      rcases Nat.eq_zero_or_pos S.size with hS | hS
      · obtain ⟨e1, e3, e4⟩ := empty_yes (s := S) hS
        obtain rfl : se = true := by rw [← hse.out]; exact decide_eq_true e4
        clear e4
        rcases Nat.eq_zero_or_pos L with rfl | hp0
        · cases db
          · go_enter Tryz.func69, Tryz.ntmps69
            go_wp2_with (first
              | (go_at_call 83; refine (hE.out _).mono ?_; rintro e w9 ⟨rfl, hb9⟩))
            go_ret
            first
              | exact ⟨ret_b (by simp), (Below.refl _ w).alloc (Nat.le_refl _) _⟩
              | exact ⟨ret_b (by simp), went_chain ((Below.refl _ w).alloc (Nat.le_refl _) _) hb9⟩
          · go_enter Tryz.func69, Tryz.ntmps69
            go_wp2_with (first
              | (go_at_call 83; refine (hE.out _).mono ?_; rintro e w9 ⟨rfl, hb9⟩))
            go_ret
            first
              | exact ⟨ret_b (by simp), (Below.refl _ w).alloc (Nat.le_refl _) _⟩
              | exact ⟨ret_b (by simp), went_chain ((Below.refl _ w).alloc (Nat.le_refl _) _) hb9⟩
        · have ep : ((L : Int) == 0) = false := by rw [beq_eq_false_iff_ne]; omega
          have pf : ¬ L = 0 := by omega
          go_enter Tryz.func69, Tryz.ntmps69
          go_wp2_with (first
            | (go_at_call 83; refine (hE.out _).mono ?_; rintro e w9 ⟨rfl, hb9⟩))
          go_ret
          first
            | exact ⟨ret_b (by simp), (Below.refl _ w).alloc (Nat.le_refl _) _⟩
            | exact ⟨ret_b (by simp [pf]), went_chain ((Below.refl _ w).alloc (Nat.le_refl _) _) hb9⟩
      · obtain ⟨e1, e3⟩ := empty_no (s := S) hS
        obtain rfl : se = false := by rw [← hse.out]; exact decide_eq_false (nonempty_list (S := S) hS)
        go_enter Tryz.func69, Tryz.ntmps69
        go_wp2_with (first
          | (go_at_call 83; refine (hE.out _).mono ?_; rintro e w9 ⟨rfl, hb9⟩))
        go_ret
        first
          | exact ⟨ret_b (by simp), (Below.refl _ w).alloc (Nat.le_refl _) _⟩
          | exact ⟨ret_b (by simp), went_chain ((Below.refl _ w).alloc (Nat.le_refl _) _) hb9⟩
  · have e5 : ((N : Int) - 1 == 0) = false := by rw [beq_eq_false_iff_ne]; omega
    have e6 : ¬ (N : Int) - 1 = 0 := by omega
    go_enter Tryz.func69, Tryz.ntmps69
    go_wp2_with (first
      | (go_at_call 83; refine (hE.out _).mono ?_; rintro e w9 ⟨rfl, hb9⟩))
    go_ret
    first
      | exact ⟨ret_b (by simp), (Below.refl _ w).alloc (Nat.le_refl _) _⟩
      | exact ⟨ret_b (by simp [kf]), went_chain ((Below.refl _ w).alloc (Nat.le_refl _) _) hb9⟩
set_option maxRecDepth 100000 in
set_option maxHeartbeats 8000000 in
theorem fit5 (hd : In w (.slice I d.is.len c7) d.is) (hN : N ≤ 9223372036854775807) (hP : L ≤ 9223372036854775807) :
    Calls Tryz.prog 69 #[.map (some q), .agg #[.int .i64 5, .int .i64 n, .string S, .slice P L p, .int .i64 d.k, .int .i64 d.n, .string ⟨d.s.toArray⟩, .slice I d.is.len c7, .slice A N c]] w
      fun e w' => e = .returned (.bool (decide (N = 1) && decide (L = 0) && decide (n = 0) && LM.sym S.data.toList && TM.nod d)) ∧ Went w w' := by
  have hM := hd.len
  have hE : Hid (∀ w' : World, Calls Tryz.prog 83 #[.agg #[.int .i64 d.k, .int .i64 d.n, .string ⟨d.s.toArray⟩, .slice I d.is.len c7]] w' fun e w'' => e = .returned (.bool (TM.nod d)) ∧ Went w' w'') := Lib.hid (fun w' => nothing_any w' d.k d.n ⟨d.s.toArray⟩ I d.is.len c7 hM)
  obtain ⟨db, hdb⟩ : ∃ db, TM.nod d = db := ⟨_, rfl⟩
  rw [hdb] at hE ⊢
  have hQ := Lib.hid (sym_any S)
  obtain ⟨qb, hqb⟩ : ∃ qb, LM.sym S.data.toList = qb := ⟨_, rfl⟩
  rw [hqb] at hQ ⊢
  generalize d.is.len = M at hd hE hM ⊢
  generalize d.k = dk at hE ⊢
  generalize d.n = dn at hE ⊢
  generalize (⟨d.s.toArray⟩ : ByteArray) = dS at hE ⊢
  have hL := Lies.made w 28 #[.int .i64 5, .int .i64 n, .string S, .slice P L p, .int .i64 dk, .int .i64 dn, .string dS, .slice I M c7, .slice A N c]
  have hb1 : Below w.heap.size w (w.alloc (.cells #[.int .i64 5, .int .i64 n, .string S, .slice P L p, .int .i64 dk, .int .i64 dn, .string dS, .slice I M c7, .slice A N c] 28)) := (Below.refl _ w).alloc (Nat.le_refl _) _
  clear hd hdb hM hqb
  by_cases kf : N = 1
  · subst kf
    cases qb
    · go_enter Tryz.func69, Tryz.ntmps69
      go_wp2_with (first
        | (go_at_call 81; refine (hQ.out _).mono ?_; rintro e w2 ⟨rfl, rfl⟩)
        | (go_at_call 83; refine (hE.out _).mono ?_; rintro e w9 ⟨rfl, hb9⟩))
      go_ret
      first
        | exact ⟨ret_b (by simp), (Below.refl _ w).alloc (Nat.le_refl _) _⟩
        | exact ⟨ret_b (by simp), went_chain ((Below.refl _ w).alloc (Nat.le_refl _) _) hb9⟩
    · by_cases hn0 : n = 0
      · subst hn0
        rcases Nat.eq_zero_or_pos L with rfl | hp0
        · cases db
          · go_enter Tryz.func69, Tryz.ntmps69
            go_wp2_with (first
              | (go_at_call 81; refine (hQ.out _).mono ?_; rintro e w2 ⟨rfl, rfl⟩)
              | (go_at_call 83; refine (hE.out _).mono ?_; rintro e w9 ⟨rfl, hb9⟩))
            go_ret
            first
              | exact ⟨ret_b (by simp), (Below.refl _ w).alloc (Nat.le_refl _) _⟩
              | exact ⟨ret_b (by simp), went_chain ((Below.refl _ w).alloc (Nat.le_refl _) _) hb9⟩
          · go_enter Tryz.func69, Tryz.ntmps69
            go_wp2_with (first
              | (go_at_call 81; refine (hQ.out _).mono ?_; rintro e w2 ⟨rfl, rfl⟩)
              | (go_at_call 83; refine (hE.out _).mono ?_; rintro e w9 ⟨rfl, hb9⟩))
            go_ret
            first
              | exact ⟨ret_b (by simp), (Below.refl _ w).alloc (Nat.le_refl _) _⟩
              | exact ⟨ret_b (by simp), went_chain ((Below.refl _ w).alloc (Nat.le_refl _) _) hb9⟩
        · have ep : ((L : Int) == 0) = false := by rw [beq_eq_false_iff_ne]; omega
          have pf : ¬ L = 0 := by omega
          go_enter Tryz.func69, Tryz.ntmps69
          go_wp2_with (first
            | (go_at_call 81; refine (hQ.out _).mono ?_; rintro e w2 ⟨rfl, rfl⟩)
            | (go_at_call 83; refine (hE.out _).mono ?_; rintro e w9 ⟨rfl, hb9⟩))
          go_ret
          first
            | exact ⟨ret_b (by simp [pf]), (Below.refl _ w).alloc (Nat.le_refl _) _⟩
            | exact ⟨ret_b (by simp [pf]), went_chain ((Below.refl _ w).alloc (Nat.le_refl _) _) hb9⟩
      · go_enter Tryz.func69, Tryz.ntmps69
        go_wp2_with (first
          | (go_at_call 81; refine (hQ.out _).mono ?_; rintro e w2 ⟨rfl, rfl⟩)
          | (go_at_call 83; refine (hE.out _).mono ?_; rintro e w9 ⟨rfl, hb9⟩))
        go_ret
        first
          | exact ⟨ret_b (by simp [hn0]), (Below.refl _ w).alloc (Nat.le_refl _) _⟩
          | exact ⟨ret_b (by simp [hn0]), went_chain ((Below.refl _ w).alloc (Nat.le_refl _) _) hb9⟩
  · have e5 : ((N : Int) - 1 == 0) = false := by rw [beq_eq_false_iff_ne]; omega
    have e6 : ¬ (N : Int) - 1 = 0 := by omega
    go_enter Tryz.func69, Tryz.ntmps69
    go_wp2_with (first
      | (go_at_call 81; refine (hQ.out _).mono ?_; rintro e w2 ⟨rfl, rfl⟩)
      | (go_at_call 83; refine (hE.out _).mono ?_; rintro e w9 ⟨rfl, hb9⟩))
    go_ret
    first
      | exact ⟨ret_b (by simp), (Below.refl _ w).alloc (Nat.le_refl _) _⟩
      | exact ⟨ret_b (by simp [kf]), went_chain ((Below.refl _ w).alloc (Nat.le_refl _) _) hb9⟩
end
end Go.Proofs.YtpiekdcbjkgipaaGreat
