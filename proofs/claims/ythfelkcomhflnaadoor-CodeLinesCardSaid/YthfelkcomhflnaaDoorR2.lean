/- The plain mathematics of layer 16: unlike data, and unlike code, have unlike text. No dump is read here. -/
import Derived.Test.YthfelkcomhflnaaDoorQ30
import Derived.Test.YthfelkcomhflnaaDoorQ47
import Derived.Test.YthfelkcomhflnaaDoorR1
namespace Go.Proofs.YthfelkcomhflnaaDoor.CD
open Go.RowKit RM

theorem o1 (n : Int) (s i : List UInt8) : SM.one false 1 n s i = Lib.itoa n := by simp [SM.one]
theorem o2 (n : Int) (s i : List UInt8) : SM.one false 2 n s i = [35, if n = 0 then 102 else 116] := by
  unfold SM.one
  rw [if_neg (by decide), if_pos rfl]
  split <;> simp [*]
theorem o3 {n : Int} (s i : List UInt8) (h0 : 0 ≤ n) (h1 : n ≤ 255) : SM.one false 3 n s i = 35 :: 92 :: ch2 n := by rw [← chr_ch2 h0 h1]; simp [SM.one]
theorem o4 (n : Int) (s i : List UInt8) : SM.one false 4 n s i = 34 :: (SM.esl s ++ [34]) := by simp [SM.one, SM.quo]
theorem o5 (n : Int) (s i : List UInt8) : SM.one false 5 n s i = s := by simp [SM.one]
theorem o6 (n : Int) (s i : List UInt8) : SM.one false 6 n s i = 40 :: (i ++ [41]) := by simp [SM.one]
theorem o7 (n : Int) (s i : List UInt8) : SM.one false 7 n s i = 40 :: (i ++ [41]) := by simp [SM.one]
theorem o8 (n : Int) (s i : List UInt8) : SM.one false 8 n s i = 35 :: 40 :: (i ++ [41]) := by simp [SM.one]
theorem len_zero {d : Dl} (h : d.len = 0) : d = .nil := by
  cases d with
  | nil => rfl
  | cons => simp [Dl.len] at h
/-- the kinds of what is right -/
theorem kd_all {k n : Int} {s : List UInt8} {is : Dl} (h : SM.kd k n s is = true) :
    (k = 1 ∧ is = .nil ∧ s = [] ∧ -1152921504606846976 ≤ n ∧ n ≤ 1152921504606846975) ∨ (k = 2 ∧ is = .nil ∧ s = [] ∧ (n = 0 ∨ n = 1)) ∨ (k = 3 ∧ is = .nil ∧ s = [] ∧ 0 ≤ n ∧ n ≤ 255) ∨ (k = 4 ∧ is = .nil ∧ n = 0)
      ∨ (k = 5 ∧ is = .nil ∧ n = 0 ∧ LM.sym s = true) ∨ (k = 6 ∧ n = 0 ∧ s = []) ∨ (k = 8 ∧ n = 0 ∧ s = []) ∨ (k = 7 ∧ n = 0 ∧ s = [] ∧ 2 ≤ is.len) := by
  unfold SM.kd at h
  by_cases h1 : k = 1
  · simp [h1] at h; exact .inl ⟨h1, len_zero h.1.1, h.1.2, h.2⟩
  rw [if_neg h1] at h
  by_cases h2 : k = 2
  · simp [h2] at h; exact .inr (.inl ⟨h2, len_zero h.1.1, h.1.2, h.2⟩)
  rw [if_neg h2] at h
  by_cases h3 : k = 3
  · simp [h3] at h; exact .inr (.inr (.inl ⟨h3, len_zero h.1.1, h.1.2, h.2⟩))
  rw [if_neg h3] at h
  by_cases h4 : k = 4
  · simp [h4] at h; exact .inr (.inr (.inr (.inl ⟨h4, len_zero h.1.1, h.1.2⟩)))
  rw [if_neg h4] at h
  by_cases h5 : k = 5
  · simp [h5] at h; exact .inr (.inr (.inr (.inr (.inl ⟨h5, len_zero h.1.1, h.1.2, h.2⟩))))
  rw [if_neg h5] at h
  by_cases h6 : k = 6
  · simp [h6] at h; exact .inr (.inr (.inr (.inr (.inr (.inl ⟨h6, h⟩)))))
  by_cases h8 : k = 8
  · simp [h8] at h; exact .inr (.inr (.inr (.inr (.inr (.inr (.inl ⟨h8, h⟩))))))
  rw [if_neg (by omega)] at h
  by_cases h7 : k = 7
  · simp [h7] at h; exact .inr (.inr (.inr (.inr (.inr (.inr (.inr ⟨h7, h.1.1.1, h.1.1.2, h.1.2⟩))))))
  rw [if_neg h7] at h
  cases h
theorem word_head {w x y : List UInt8} {b : UInt8} (h0 : w ≠ []) (h1 : ∀ c ∈ w, LM.nmb c.toNat = true) (h : w ++ x = b :: y) : LM.nmb b.toNat = true := by
  cases w with
  | nil => exact absurd rfl h0
  | cons c r =>
    simp only [List.cons_append, List.cons.injEq] at h
    rw [← h.1]; exact h1 c (by simp)
/-- a word: a number's or a symbol's text -/
theorem wordy {k n : Int} {s i : List UInt8} {is : Dl} (h : SM.kd k n s is = true) (hk : k = 1 ∨ k = 5) : SM.one false k n s i ≠ [] ∧ SM.one false k n s i ≠ [46] ∧ ∀ c ∈ SM.one false k n s i, LM.nmb c.toNat = true := by
  rcases hk with rfl | rfl
  · rcases kd_all h with ⟨-, -, -, h0, h1⟩ | ⟨h, -⟩ | ⟨h, -⟩ | ⟨h, -⟩ | ⟨h, -⟩ | ⟨h, -⟩ | ⟨h, -⟩ | ⟨h, -⟩
    · rw [o1]
      refine ⟨itoa_ne n (by omega) (by omega), fun e => ?_, itoa_nmb n⟩
      have := (itoa_num n (by omega) (by omega)).1
      rw [e] at this
      revert this; decide
    all_goals omega
  · rcases kd_all h with ⟨h, -⟩ | ⟨h, -⟩ | ⟨h, -⟩ | ⟨h, -⟩ | ⟨-, -, -, hs⟩ | ⟨h, -⟩ | ⟨h, -⟩ | ⟨h, -⟩
    all_goals try omega
    have := sym_nmb hs
    rw [o5]
    exact ⟨this.1, this.2.1, this.2.2.2⟩
/-- the first bytes of what is no word -/
theorem unwordy {k n : Int} {s i : List UInt8} {is : Dl} (h : SM.kd k n s is = true) (hk : ¬ (k = 1 ∨ k = 5)) : ∃ b t, SM.one false k n s i = b :: t ∧ (b = 34 ∨ b = 35 ∨ b = 40) := by
  rcases kd_all h with ⟨rfl, -⟩ | ⟨rfl, -⟩ | ⟨rfl, -, -, h0, h1⟩ | ⟨rfl, -⟩ | ⟨rfl, -⟩ | ⟨rfl, -⟩ | ⟨rfl, -⟩ | ⟨rfl, -⟩
  · exact absurd (.inl rfl) hk
  · rw [o2]; exact ⟨_, _, rfl, .inr (.inl rfl)⟩
  · rw [o3 _ _ h0 h1]; exact ⟨_, _, rfl, .inr (.inl rfl)⟩
  · rw [o4]; exact ⟨_, _, rfl, .inl rfl⟩
  · exact absurd (.inr rfl) hk
  · rw [o6]; exact ⟨_, _, rfl, .inr (.inr rfl)⟩
  · rw [o8]; exact ⟨_, _, rfl, .inr (.inl rfl)⟩
  · rw [o7]; exact ⟨_, _, rfl, .inr (.inr rfl)⟩
theorem odd {b : UInt8} (h : b = 34 ∨ b = 35 ∨ b = 40) : LM.nmb b.toNat = false := by rcases h with rfl | rfl | rfl <;> decide
/-- no text of a datum begins as a full stop with a blank behind it does, nor with what ends a list -/
theorem one_nodot {k n : Int} {s i : List UInt8} {is : Dl} (h : SM.kd k n s is = true) {c : UInt8} {u y : List UInt8} (_ : dl c = true) : SM.one false k n s i ++ c :: u ≠ 46 :: 32 :: y := by
  intro E
  by_cases hk : k = 1 ∨ k = 5
  · obtain ⟨h1, h2, h3⟩ := wordy (i := i) h hk
    generalize SM.one false k n s i = w at *
    match w, h1, h2, h3, E with
    | [b], _, h2, _, E =>
      simp only [List.cons_append, List.nil_append, List.cons.injEq] at E
      exact h2 (by rw [E.1])
    | b :: b2 :: r, _, _, h3, E =>
      simp only [List.cons_append, List.cons.injEq] at E
      have := h3 b2 (by simp)
      rw [E.2.1] at this
      revert this; decide
  · obtain ⟨b, t, e, hb⟩ := unwordy (i := i) h hk
    rw [e] at E
    simp only [List.cons_append, List.cons.injEq] at E
    rw [E.1] at hb
    revert hb; decide
theorem one_noend {k n : Int} {s i : List UInt8} {is : Dl} (h : SM.kd k n s is = true) {x y : List UInt8} : SM.one false k n s i ++ x ≠ 41 :: y := by
  intro E
  by_cases hk : k = 1 ∨ k = 5
  · obtain ⟨h1, h2, h3⟩ := wordy (i := i) h hk
    have := word_head h1 h3 E
    revert this; decide
  · obtain ⟨b, t, e, hb⟩ := unwordy (i := i) h hk
    rw [e] at E
    simp only [List.cons_append, List.cons.injEq] at E
    rw [E.1] at hb
    revert hb; decide
/-- of one datum, as soon as it holds of its items -/
theorem one_inj {k n k' n' : Int} {s s' : List UInt8} {is is' : Dl} {c e : UInt8} {u v : List UInt8} (h : SM.kd k n s is = true) (h' : SM.kd k' n' s' is' = true)
    (H : ∀ (dot dot' : Bool) (u v : List UInt8), SM.tl false dot true is ++ 41 :: u = SM.tl false dot' true is' ++ 41 :: v → is = is' ∧ u = v ∧ (1 ≤ is.len → dot = dot')) (hc : dl c = true) (he : dl e = true)
    (E : SM.one false k n s (SM.tl false (decide (k = 7)) true is) ++ c :: u = SM.one false k' n' s' (SM.tl false (decide (k' = 7)) true is') ++ e :: v) : k = k' ∧ n = n' ∧ s = s' ∧ is = is' ∧ c :: u = e :: v := by
  by_cases hk : k = 1 ∨ k = 5
  · obtain ⟨w1, w2, w3⟩ := wordy (i := SM.tl false (decide (k = 7)) true is) h hk
    by_cases hk' : k' = 1 ∨ k' = 5
    · obtain ⟨v1, v2, v3⟩ := wordy (i := SM.tl false (decide (k' = 7)) true is') h' hk'
      obtain ⟨E1, E2⟩ := words (dl_nmb hc) (dl_nmb he) w3 v3 E
      clear E w1 w2 w3 v1 v2 v3 H
      rcases hk with rfl | rfl <;> rcases hk' with rfl | rfl
      · rw [o1, o1] at E1
        rcases kd_all h with ⟨-, i1, s1, b1, b2⟩ | ⟨h, -⟩ | ⟨h, -⟩ | ⟨h, -⟩ | ⟨h, -⟩ | ⟨h, -⟩ | ⟨h, -⟩ | ⟨h, -⟩
        rcases kd_all h' with ⟨-, i2, s2, b3, b4⟩ | ⟨h, -⟩ | ⟨h, -⟩ | ⟨h, -⟩ | ⟨h, -⟩ | ⟨h, -⟩ | ⟨h, -⟩ | ⟨h, -⟩
        all_goals try omega
        exact ⟨rfl, itoa_inj (by omega) (by omega) (by omega) (by omega) E1, by rw [s1, s2], by rw [i1, i2], E2⟩
      · rw [o1, o5] at E1
        rcases kd_all h with ⟨-, i1, s1, b1, b2⟩ | ⟨h, -⟩ | ⟨h, -⟩ | ⟨h, -⟩ | ⟨h, -⟩ | ⟨h, -⟩ | ⟨h, -⟩ | ⟨h, -⟩
        rcases kd_all h' with ⟨h, -⟩ | ⟨h, -⟩ | ⟨h, -⟩ | ⟨h, -⟩ | ⟨-, i2, n2, s2⟩ | ⟨h, -⟩ | ⟨h, -⟩ | ⟨h, -⟩
        all_goals try omega
        have a := (itoa_num n (by omega) (by omega)).1
        rw [E1, (sym_nmb s2).2.2.1] at a
        cases a
      · rw [o1, o5] at E1
        rcases kd_all h' with ⟨-, i1, s1, b1, b2⟩ | ⟨h, -⟩ | ⟨h, -⟩ | ⟨h, -⟩ | ⟨h, -⟩ | ⟨h, -⟩ | ⟨h, -⟩ | ⟨h, -⟩
        rcases kd_all h with ⟨h, -⟩ | ⟨h, -⟩ | ⟨h, -⟩ | ⟨h, -⟩ | ⟨-, i2, n2, s2⟩ | ⟨h, -⟩ | ⟨h, -⟩ | ⟨h, -⟩
        all_goals try omega
        have a := (itoa_num n' (by omega) (by omega)).1
        rw [← E1, (sym_nmb s2).2.2.1] at a
        cases a
      · rw [o5, o5] at E1
        rcases kd_all h with ⟨h, -⟩ | ⟨h, -⟩ | ⟨h, -⟩ | ⟨h, -⟩ | ⟨-, i1, n1, s1⟩ | ⟨h, -⟩ | ⟨h, -⟩ | ⟨h, -⟩
        all_goals try omega
        rcases kd_all h' with ⟨h, -⟩ | ⟨h, -⟩ | ⟨h, -⟩ | ⟨h, -⟩ | ⟨-, i2, n2, s2⟩ | ⟨h, -⟩ | ⟨h, -⟩ | ⟨h, -⟩
        all_goals try omega
        exact ⟨rfl, by rw [n1, n2], E1, by rw [i1, i2], E2⟩
    · obtain ⟨b, t, e', hb⟩ := unwordy (i := SM.tl false (decide (k' = 7)) true is') h' hk'
      rw [e', List.cons_append] at E
      have := word_head w1 w3 E
      rw [odd hb] at this
      cases this
  · by_cases hk' : k' = 1 ∨ k' = 5
    · obtain ⟨v1, v2, v3⟩ := wordy (i := SM.tl false (decide (k' = 7)) true is') h' hk'
      obtain ⟨b, t, e', hb⟩ := unwordy (i := SM.tl false (decide (k = 7)) true is) h hk
      rw [e', List.cons_append] at E
      have := word_head v1 v3 E.symm
      rw [odd hb] at this
      cases this
    · have a := kd_all h
      have a' := kd_all h'
      clear h h'
      rcases a with ⟨rfl, -⟩ | ⟨rfl, i1, s1, n1⟩ | ⟨rfl, i1, s1, n1, m1⟩ | ⟨rfl, i1, n1⟩ | ⟨rfl, -⟩ | ⟨rfl, n1, s1⟩ | ⟨rfl, n1, s1⟩ | ⟨rfl, n1, s1, l1⟩
      · exact absurd (.inl rfl) hk
      · rw [o2] at E
        rcases a' with ⟨rfl, -⟩ | ⟨rfl, i2, s2, n2⟩ | ⟨rfl, i2, s2, n2, m2⟩ | ⟨rfl, i2, n2⟩ | ⟨rfl, -⟩ | ⟨rfl, n2, s2⟩ | ⟨rfl, n2, s2⟩ | ⟨rfl, n2, s2, l2⟩
        · exact absurd (.inl rfl) hk'
        · rw [o2] at E
          simp only [List.cons_append, List.nil_append, List.cons.injEq, true_and] at E
          obtain ⟨E1, E2, E3⟩ := E
          refine ⟨rfl, ?_, by rw [s1, s2], by rw [i1, i2], by rw [E2, E3]⟩
          rcases n1 with rfl | rfl <;> rcases n2 with rfl | rfl <;> first | rfl | (exfalso; revert E1; decide)
        · rw [o3 _ _ n2 m2] at E
          simp only [List.cons_append, List.nil_append, List.cons.injEq, true_and] at E
          obtain ⟨E1, -⟩ := E
          exfalso
          split at E1 <;> exact absurd E1 (by decide)
        · rw [o4] at E; simp at E
        · exact absurd (.inr rfl) hk'
        · rw [o6] at E; simp at E
        · rw [o8] at E
          simp only [List.cons_append, List.nil_append, List.cons.injEq, true_and] at E
          obtain ⟨E1, -⟩ := E
          exfalso
          split at E1 <;> exact absurd E1 (by decide)
        · rw [o7] at E; simp at E
      · rw [o3 _ _ n1 m1] at E
        rcases a' with ⟨rfl, -⟩ | ⟨rfl, i2, s2, n2⟩ | ⟨rfl, i2, s2, n2, m2⟩ | ⟨rfl, i2, n2⟩ | ⟨rfl, -⟩ | ⟨rfl, n2, s2⟩ | ⟨rfl, n2, s2⟩ | ⟨rfl, n2, s2, l2⟩
        · exact absurd (.inl rfl) hk'
        · rw [o2] at E
          simp only [List.cons_append, List.nil_append, List.cons.injEq, true_and] at E
          obtain ⟨E1, -⟩ := E
          exfalso
          split at E1 <;> exact absurd E1 (by decide)
        · rw [o3 _ _ n2 m2] at E
          simp only [List.cons_append, List.cons.injEq, true_and] at E
          obtain ⟨E1, E2⟩ := ch2_inj n1 m1 n2 m2 hc he E
          exact ⟨rfl, E1, by rw [s1, s2], by rw [i1, i2], E2⟩
        · rw [o4] at E; simp at E
        · exact absurd (.inr rfl) hk'
        · rw [o6] at E; simp at E
        · rw [o8] at E; simp at E
        · rw [o7] at E; simp at E
      · rw [o4] at E
        rcases a' with ⟨rfl, -⟩ | ⟨rfl, i2, s2, n2⟩ | ⟨rfl, i2, s2, n2, m2⟩ | ⟨rfl, i2, n2⟩ | ⟨rfl, -⟩ | ⟨rfl, n2, s2⟩ | ⟨rfl, n2, s2⟩ | ⟨rfl, n2, s2, l2⟩
        · exact absurd (.inl rfl) hk'
        · rw [o2] at E; simp at E
        · rw [o3 _ _ n2 m2] at E; simp at E
        · rw [o4, List.cons_append, List.cons_append, List.append_assoc, List.append_assoc, List.cons.injEq] at E
          obtain ⟨E1, E2⟩ := esl_inj E.2
          exact ⟨rfl, by rw [n1, n2], E1, by rw [i1, i2], E2⟩
        · exact absurd (.inr rfl) hk'
        · rw [o6] at E; simp at E
        · rw [o8] at E; simp at E
        · rw [o7] at E; simp at E
      · exact absurd (.inr rfl) hk
      · rw [o6] at E
        rcases a' with ⟨rfl, -⟩ | ⟨rfl, i2, s2, n2⟩ | ⟨rfl, i2, s2, n2, m2⟩ | ⟨rfl, i2, n2⟩ | ⟨rfl, -⟩ | ⟨rfl, n2, s2⟩ | ⟨rfl, n2, s2⟩ | ⟨rfl, n2, s2, l2⟩
        · exact absurd (.inl rfl) hk'
        · rw [o2] at E; simp at E
        · rw [o3 _ _ n2 m2] at E; simp at E
        · rw [o4] at E; simp at E
        · exact absurd (.inr rfl) hk'
        · rw [o6, List.cons_append, List.cons_append, List.append_assoc, List.append_assoc, List.cons.injEq] at E
          obtain ⟨E1, E2, -⟩ := H _ _ _ _ E.2
          exact ⟨rfl, by rw [n1, n2], by rw [s1, s2], E1, E2⟩
        · rw [o8] at E; simp at E
        · rw [o7, List.cons_append, List.cons_append, List.append_assoc, List.append_assoc, List.cons.injEq] at E
          obtain ⟨E1, -, E3⟩ := H _ _ _ _ E.2
          rw [E1] at E3
          exact absurd (E3 (by omega)) (by decide)
      · rw [o8] at E
        rcases a' with ⟨rfl, -⟩ | ⟨rfl, i2, s2, n2⟩ | ⟨rfl, i2, s2, n2, m2⟩ | ⟨rfl, i2, n2⟩ | ⟨rfl, -⟩ | ⟨rfl, n2, s2⟩ | ⟨rfl, n2, s2⟩ | ⟨rfl, n2, s2, l2⟩
        · exact absurd (.inl rfl) hk'
        · rw [o2] at E
          simp only [List.cons_append, List.nil_append, List.cons.injEq, true_and] at E
          obtain ⟨E1, -⟩ := E
          exfalso
          split at E1 <;> exact absurd E1 (by decide)
        · rw [o3 _ _ n2 m2] at E; simp at E
        · rw [o4] at E; simp at E
        · exact absurd (.inr rfl) hk'
        · rw [o6] at E; simp at E
        · rw [o8, List.cons_append, List.cons_append, List.cons_append, List.cons_append, List.append_assoc, List.append_assoc, List.cons.injEq, List.cons.injEq] at E
          obtain ⟨E1, E2, -⟩ := H _ _ _ _ E.2.2
          exact ⟨rfl, by rw [n1, n2], by rw [s1, s2], E1, E2⟩
        · rw [o7] at E; simp at E
      · rw [o7] at E
        rcases a' with ⟨rfl, -⟩ | ⟨rfl, i2, s2, n2⟩ | ⟨rfl, i2, s2, n2, m2⟩ | ⟨rfl, i2, n2⟩ | ⟨rfl, -⟩ | ⟨rfl, n2, s2⟩ | ⟨rfl, n2, s2⟩ | ⟨rfl, n2, s2, l2⟩
        · exact absurd (.inl rfl) hk'
        · rw [o2] at E; simp at E
        · rw [o3 _ _ n2 m2] at E; simp at E
        · rw [o4] at E; simp at E
        · exact absurd (.inr rfl) hk'
        · rw [o6, List.cons_append, List.cons_append, List.append_assoc, List.append_assoc, List.cons.injEq] at E
          obtain ⟨E1, -, E3⟩ := H _ _ _ _ E.2
          exact absurd (E3 (by omega)) (by decide)
        · rw [o8] at E; simp at E
        · rw [o7, List.cons_append, List.cons_append, List.append_assoc, List.append_assoc, List.cons.injEq] at E
          obtain ⟨E1, E2, -⟩ := H _ _ _ _ E.2
          exact ⟨rfl, by rw [n1, n2], by rw [s1, s2], E1, E2⟩
theorem tl_false (dot : Bool) (r : Dl) (u : List UInt8) : ∃ c y, SM.tl false dot false r ++ 41 :: u = c :: y ∧ dl c = true := by
  cases r with
  | nil => exact ⟨41, u, by simp [SM.tl], by decide⟩
  | cons => exact ⟨32, _, rfl, by decide⟩
theorem tl_inj : ∀ (d : Dl) (dot f : Bool) (u : List UInt8), SM.rgt d = true → ∀ (e : Dl) (dot' : Bool) (v : List UInt8), SM.rgt e = true → SM.tl false dot f d ++ 41 :: u = SM.tl false dot' f e ++ 41 :: v → d = e ∧ u = v ∧ (1 ≤ d.len → dot = dot')
  | .nil, dot, f, u, _, .nil, dot', v, _, E => by
    simp [SM.tl] at E
    exact ⟨rfl, E, fun h => by simp [Dl.len] at h⟩
  | .nil, dot, f, u, _, .cons k' n' s' is' r', dot', v, h', E => by
    exfalso
    simp only [SM.rgt, Bool.and_eq_true] at h'
    simp only [SM.tl, List.nil_append, List.append_assoc] at E
    cases f
    · simp at E
    · simp only [if_true, List.nil_append] at E
      split at E
      · simp at E
      · exact one_noend h'.1.1 E.symm
  | .cons k n s is r, dot, f, u, h, .nil, dot', v, _, E => by
    exfalso
    simp only [SM.rgt, Bool.and_eq_true] at h
    simp only [SM.tl, List.nil_append, List.append_assoc] at E
    cases f
    · simp at E
    · simp only [if_true, List.nil_append] at E
      split at E
      · simp at E
      · exact one_noend h.1.1 E
  | .cons k n s is r, dot, f, u, h, .cons k' n' s' is' r', dot', v, h', E => by
    simp only [SM.rgt, Bool.and_eq_true] at h h'
    have H := fun (dot dot' : Bool) (u v : List UInt8) E => tl_inj is dot true u h.1.2 is' dot' v h'.1.2 E
    have R := tl_inj r dot false u h.2 r' dot' v h'.2
    simp only [SM.tl, List.append_assoc] at E
    have E := List.append_cancel_left E
    obtain ⟨c, y, e1, hc⟩ := tl_false dot r u
    obtain ⟨c', y', e1', hc'⟩ := tl_false dot' r' v
    rw [e1, e1'] at E R
    by_cases q : (dot && decide (r.len = 0)) = true
    · rw [if_pos q] at E
      simp only [Bool.and_eq_true, decide_eq_true_eq] at q
      by_cases q' : (dot' && decide (r'.len = 0)) = true
      · rw [if_pos q'] at E
        simp only [Bool.and_eq_true, decide_eq_true_eq] at q'
        have E := List.append_cancel_left E
        obtain ⟨rfl, rfl, rfl, rfl, E2⟩ := one_inj h.1.1 h'.1.1 H hc hc' E
        obtain ⟨rfl, rfl, -⟩ := R E2
        exact ⟨rfl, rfl, fun _ => by rw [q.1, q'.1]⟩
      · rw [if_neg q'] at E
        exact absurd E.symm (one_nodot h'.1.1 hc')
    · rw [if_neg q] at E
      by_cases q' : (dot' && decide (r'.len = 0)) = true
      · rw [if_pos q'] at E
        exact absurd E (one_nodot h.1.1 hc)
      · rw [if_neg q'] at E
        obtain ⟨rfl, rfl, rfl, rfl, E2⟩ := one_inj h.1.1 h'.1.1 H hc hc' E
        obtain ⟨rfl, rfl, E3⟩ := R E2
        refine ⟨rfl, rfl, fun _ => ?_⟩
        by_cases hr : r.len = 0
        · simp [hr] at q q'; rw [q, q']
        · exact E3 (by omega)
theorem val_inj {d e : Dm} {c x : UInt8} {u v : List UInt8} (h : TM.quo d = true) (h' : TM.quo e = true) (hc : dl c = true) (he : dl x = true) (E : val d ++ c :: u = val e ++ x :: v) : d = e ∧ c :: u = x :: v := by
  have void : ∀ {d : Dm}, TM.quo d = true → d.k = 0 → (d.n = 0 ∨ d.n = 1) ∧ d.s = [] ∧ d.is = .nil := by
    intro d h h0
    unfold TM.quo at h
    rw [if_pos h0] at h
    simp at h
    exact ⟨h.1.1, h.1.2, len_zero h.2⟩
  have full : ∀ {d : Dm}, TM.quo d = true → d.k ≠ 0 → SM.kd d.k d.n d.s d.is = true ∧ SM.rgt d.is = true := by
    intro d h h0
    unfold TM.quo at h
    rw [if_neg h0] at h
    unfold SM.okd at h
    simp only [Bool.and_eq_true] at h
    exact h.2
  have odds : ∀ {d : Dm} {c : UInt8} {u y : List UInt8} {b : UInt8}, TM.quo d = true → d.k ≠ 0 → (b = 118 ∨ b = 117) → SM.txt false d ++ c :: u ≠ 35 :: b :: y := by
    intro d c u y b h h0 hb E
    obtain ⟨h1, h2⟩ := full h h0
    unfold SM.txt at E
    by_cases hk : d.k = 1 ∨ d.k = 5
    · obtain ⟨w1, w2, w3⟩ := wordy (i := SM.tl false (decide (d.k = 7)) true d.is) h1 hk
      have := word_head w1 w3 E
      revert this; decide
    · have a := kd_all h1
      rcases a with ⟨e, -⟩ | ⟨e, i1, s1, n1⟩ | ⟨e, i1, s1, n1, m1⟩ | ⟨e, i1, n1⟩ | ⟨e, -⟩ | ⟨e, n1, s1⟩ | ⟨e, n1, s1⟩ | ⟨e, n1, s1, l1⟩
      · exact hk (.inl e)
      · rw [e, o2] at E
        simp only [List.cons_append, List.nil_append, List.cons.injEq, true_and] at E
        obtain ⟨E1, -⟩ := E
        rcases hb with rfl | rfl <;> split at E1 <;> exact absurd E1 (by decide)
      · rw [e, o3 _ _ n1 m1] at E
        simp only [List.cons_append, List.cons.injEq, true_and] at E
        rcases hb with rfl | rfl <;> exact absurd E.1 (by decide)
      · rw [e, o4] at E; simp at E
      · exact hk (.inr e)
      · rw [e, o6] at E; simp at E
      · rw [e, o8] at E
        simp only [List.cons_append, List.cons.injEq, true_and] at E
        rcases hb with rfl | rfl <;> exact absurd E.1 (by decide)
      · rw [e, o7] at E; simp at E
  obtain ⟨dk, dn, ds, dis⟩ := d
  obtain ⟨ek, en, es, eis⟩ := e
  unfold val at E
  simp only at E
  by_cases d0 : dk = 0
  · rw [if_neg (show ¬ (dk ≠ 0) by simpa using d0)] at E
    obtain ⟨d1, d2, d3⟩ := void h d0
    simp only at d1 d2 d3
    by_cases e0 : ek = 0
    · rw [if_neg (show ¬ (ek ≠ 0) by simpa using e0)] at E
      obtain ⟨e1, e2, e3⟩ := void h' e0
      simp only at e1 e2 e3
      subst d0 d2 d3 e0 e2 e3
      rcases d1 with rfl | rfl <;> rcases e1 with rfl | rfl <;> simp at E <;> exact ⟨rfl, by rw [E.1, E.2]⟩
    · rw [if_pos (show ek ≠ 0 from e0)] at E
      exfalso
      by_cases dn0 : dn = 0
      · rw [if_pos dn0] at E; exact odds (d := ⟨ek, en, es, eis⟩) h' e0 (.inl rfl) E.symm
      · rw [if_neg dn0] at E; exact odds (d := ⟨ek, en, es, eis⟩) h' e0 (.inr rfl) E.symm
  · rw [if_pos (show dk ≠ 0 from d0)] at E
    by_cases e0 : ek = 0
    · rw [if_neg (show ¬ (ek ≠ 0) by simpa using e0)] at E
      exfalso
      by_cases en0 : en = 0
      · rw [if_pos en0] at E; exact odds (d := ⟨dk, dn, ds, dis⟩) h d0 (.inl rfl) E
      · rw [if_neg en0] at E; exact odds (d := ⟨dk, dn, ds, dis⟩) h d0 (.inr rfl) E
    · rw [if_pos (show ek ≠ 0 from e0)] at E
      obtain ⟨f1, f2⟩ := full h d0
      obtain ⟨g1, g2⟩ := full h' e0
      obtain ⟨rfl, rfl, rfl, rfl, E2⟩ := one_inj f1 g1 (fun dot dot' u v E => tl_inj _ dot true u f2 _ dot' v g2 E) hc he E
      exact ⟨rfl, E2⟩

/-! ### code -/
theorem nod_zero {d : Dm} (h : TM.nod d = true) : d = ⟨0, 0, [], .nil⟩ := by
  obtain ⟨k, n, s, is⟩ := d
  unfold TM.nod at h
  simp at h
  obtain ⟨⟨⟨rfl, rfl⟩, rfl⟩, h⟩ := h
  rw [len_zero h]
theorem nm_nmb (op : Int) : ∀ c ∈ nm op, LM.nmb c.toNat = true := by
  have H : (nm op).all (fun c => LM.nmb c.toNat) = true := by
    unfold nm
    by_cases h1 : op = 1
    · rw [if_pos h1]; decide
    rw [if_neg h1]
    by_cases h2 : op = 2
    · rw [if_pos h2]; decide
    rw [if_neg h2]
    by_cases h3 : op = 3
    · rw [if_pos h3]; decide
    rw [if_neg h3]
    by_cases h4 : op = 4
    · rw [if_pos h4]; decide
    rw [if_neg h4]
    by_cases h5 : op = 5
    · rw [if_pos h5]; decide
    rw [if_neg h5]
    by_cases h6 : op = 6
    · rw [if_pos h6]; decide
    rw [if_neg h6]
    by_cases h7 : op = 7
    · rw [if_pos h7]; decide
    rw [if_neg h7]
    by_cases h8 : op = 8
    · rw [if_pos h8]; decide
    rw [if_neg h8]
    by_cases h9 : op = 9
    · rw [if_pos h9]; decide
    rw [if_neg h9]
    by_cases h10 : op = 10
    · rw [if_pos h10]; decide
    rw [if_neg h10]
    by_cases h11 : op = 11
    · rw [if_pos h11]; decide
    rw [if_neg h11]
    by_cases h12 : op = 12
    · rw [if_pos h12]; decide
    rw [if_neg h12]
    by_cases h13 : op = 13
    · rw [if_pos h13]; decide
    rw [if_neg h13]
    by_cases h14 : op = 14
    · rw [if_pos h14]; decide
    rw [if_neg h14]
    rfl
  exact fun c hc => List.all_eq_true.1 H c hc
theorem nm_inj {p q : Int} (hp : 1 ≤ p ∧ p ≤ 14) (hq : 1 ≤ q ∧ q ≤ 14) (h : nm p = nm q) : p = q := by
  have H : ∀ a b : _root_.Fin 14, nm ((a.val : Int) + 1) = nm ((b.val : Int) + 1) → a = b := by decide +kernel
  have := H ⟨(p - 1).toNat, by omega⟩ ⟨(q - 1).toNat, by omega⟩ (by
    show nm (((p - 1).toNat : Int) + 1) = nm (((q - 1).toNat : Int) + 1)
    rw [show ((p - 1).toNat : Int) + 1 = p by omega, show ((q - 1).toNat : Int) + 1 = q by omega]; exact h)
  have := congrArg _root_.Fin.val this
  simp only at this
  omega
theorem opd_head (x : Ins) (u : List UInt8) : ∃ c y, opd x ++ 10 :: u = c :: y ∧ dl c = true := by
  unfold opd
  repeat' split
  all_goals (first | exact ⟨32, _, rfl, by decide⟩ | exact ⟨10, _, rfl, by decide⟩)
theorem opd_inj {n m : Nat} {x y : Ins} {u v : List UInt8} (h : may n x = true) (h' : may m y = true) (hn : n ≤ 1000000) (hm : m ≤ 1000000) (ho : x.op = y.op) (E : opd x ++ 10 :: u = opd y ++ 10 :: v) : x = y ∧ u = v := by
  obtain ⟨op, a, b, s, d⟩ := x
  obtain ⟨op', a', b', s', d'⟩ := y
  simp only at ho
  subst ho
  have hop := may_op h
  simp only at hop
  have two : ∀ {a b a' b' : Int}, -9223372036854775808 ≤ a → a ≤ 9223372036854775807 → -9223372036854775808 ≤ b → b ≤ 9223372036854775807 → -9223372036854775808 ≤ a' → a' ≤ 9223372036854775807 → -9223372036854775808 ≤ b' → b' ≤ 9223372036854775807 →
      (32 :: (Lib.itoa a ++ 32 :: Lib.itoa b)) ++ 10 :: u = (32 :: (Lib.itoa a' ++ 32 :: Lib.itoa b')) ++ 10 :: v → a = a' ∧ b = b' ∧ u = v := by
    intro a b a' b' h1 h2 h3 h4 h5 h6 h7 h8 E
    rw [List.cons_append, List.cons_append, List.append_assoc, List.append_assoc, List.cons_append, List.cons_append, List.cons.injEq] at E
    obtain ⟨E1, E2⟩ := words (by decide) (by decide) (itoa_nmb a) (itoa_nmb a') E.2
    rw [List.cons.injEq] at E2
    obtain ⟨E3, E4⟩ := words (by decide) (by decide) (itoa_nmb b) (itoa_nmb b') E2.2
    rw [List.cons.injEq] at E4
    exact ⟨itoa_inj h1 h2 h5 h6 E1, itoa_inj h3 h4 h7 h8 E3, E4.2⟩
  have one : ∀ {a a' : Int}, -9223372036854775808 ≤ a → a ≤ 9223372036854775807 → -9223372036854775808 ≤ a' → a' ≤ 9223372036854775807 →
      (32 :: Lib.itoa a) ++ 10 :: u = (32 :: Lib.itoa a') ++ 10 :: v → a = a' ∧ u = v := by
    intro a a' h1 h2 h5 h6 E
    rw [List.cons_append, List.cons_append, List.cons.injEq] at E
    obtain ⟨E1, E2⟩ := words (by decide) (by decide) (itoa_nmb a) (itoa_nmb a') E.2
    rw [List.cons.injEq] at E2
    exact ⟨itoa_inj h1 h2 h5 h6 E1, E2.2⟩
  unfold may at h h'
  unfold opd at E
  simp only at h h' E
  rcases (show op = 1 ∨ (op = 2 ∨ op = 4) ∨ (op = 3 ∨ op = 5 ∨ op = 6) ∨ (op = 7 ∨ op = 8 ∨ op = 10) ∨ op = 9 ∨ (op = 11 ∨ op = 14) ∨ (op = 12 ∨ op = 13) by omega) with g | g | g | g | g | g | g
  · rw [if_pos g] at h h' E
    rw [if_pos g] at E
    simp only [Bool.and_eq_true, decide_eq_true_eq] at h h'
    obtain ⟨⟨⟨q1, rfl⟩, rfl⟩, rfl⟩ := h
    obtain ⟨⟨⟨q2, rfl⟩, rfl⟩, rfl⟩ := h'
    rw [List.cons_append, List.cons_append, List.cons.injEq] at E
    obtain ⟨rfl, E2⟩ := val_inj q1 q2 (by decide) (by decide) E.2
    rw [List.cons.injEq] at E2
    exact ⟨rfl, E2.2⟩
  · rw [if_neg (by omega), if_pos g] at h h'
    rw [if_neg (by omega), if_neg (by omega), if_pos (by omega), if_neg (by omega), if_neg (by omega), if_pos (by omega)] at E
    simp only [Bool.and_eq_true, decide_eq_true_eq] at h h'
    obtain ⟨⟨⟨q1, q2⟩, rfl⟩, q3⟩ := h
    obtain ⟨⟨⟨p1, p2⟩, rfl⟩, p3⟩ := h'
    obtain ⟨rfl, rfl, rfl⟩ := two (by omega) (by omega) (by omega) (by omega) (by omega) (by omega) (by omega) (by omega) E
    rw [nod_zero q3, nod_zero p3]
    exact ⟨rfl, rfl⟩
  · rw [if_neg (by omega), if_neg (by omega), if_pos g] at h h'
    rw [if_neg (by omega), if_pos g, if_neg (by omega), if_pos g] at E
    simp only [Bool.and_eq_true, decide_eq_true_eq] at h h'
    obtain ⟨⟨⟨q1, rfl⟩, rfl⟩, q3⟩ := h
    obtain ⟨⟨⟨p1, rfl⟩, rfl⟩, p3⟩ := h'
    rw [List.cons_append, List.cons_append, List.cons.injEq] at E
    obtain ⟨rfl, E2⟩ := words (by decide) (by decide) (sym_nmb q1).2.2.2 (sym_nmb p1).2.2.2 E.2
    rw [List.cons.injEq] at E2
    rw [nod_zero q3, nod_zero p3]
    exact ⟨rfl, E2.2⟩
  · rw [if_neg (by omega), if_neg (by omega), if_neg (by omega), if_pos g] at h h'
    rw [if_neg (by omega), if_neg (by omega), if_neg (by omega), if_neg (by omega), if_neg (by omega), if_neg (by omega), if_neg (by omega), if_neg (by omega)] at E
    simp only [Bool.and_eq_true, decide_eq_true_eq] at h h'
    obtain ⟨⟨⟨q1, rfl⟩, rfl⟩, q3⟩ := h
    obtain ⟨⟨⟨p1, rfl⟩, rfl⟩, p3⟩ := h'
    obtain ⟨rfl, rfl⟩ := one (by omega) (by omega) (by omega) (by omega) E
    rw [nod_zero q3, nod_zero p3]
    exact ⟨rfl, rfl⟩
  · rw [if_neg (by omega), if_neg (by omega), if_neg (by omega), if_neg (by omega), if_pos g] at h h'
    rw [if_neg (by omega), if_neg (by omega), if_pos (by omega), if_neg (by omega), if_neg (by omega), if_pos (by omega)] at E
    simp only [Bool.and_eq_true, decide_eq_true_eq] at h h'
    obtain ⟨⟨⟨q1, q2⟩, rfl⟩, q3⟩ := h
    obtain ⟨⟨⟨p1, p2⟩, rfl⟩, p3⟩ := h'
    obtain ⟨rfl, rfl, rfl⟩ := two (by omega) (by omega) (by omega) (by omega) (by omega) (by omega) (by omega) (by omega) E
    rw [nod_zero q3, nod_zero p3]
    exact ⟨rfl, rfl⟩
  · rw [if_neg (by omega), if_neg (by omega), if_neg (by omega), if_neg (by omega), if_neg (by omega), if_pos g] at h h'
    rw [if_neg (by omega), if_neg (by omega), if_neg (by omega), if_pos g, if_neg (by omega), if_neg (by omega), if_neg (by omega), if_pos g] at E
    simp only [Bool.and_eq_true, decide_eq_true_eq] at h h'
    obtain ⟨⟨⟨rfl, rfl⟩, rfl⟩, q3⟩ := h
    obtain ⟨⟨⟨rfl, rfl⟩, rfl⟩, p3⟩ := h'
    rw [List.nil_append, List.nil_append, List.cons.injEq] at E
    rw [nod_zero q3, nod_zero p3]
    exact ⟨rfl, E.2⟩
  · rw [if_neg (by omega), if_neg (by omega), if_neg (by omega), if_neg (by omega), if_neg (by omega), if_neg (by omega), if_pos g] at h h'
    rw [if_neg (by omega), if_neg (by omega), if_neg (by omega), if_neg (by omega), if_neg (by omega), if_neg (by omega), if_neg (by omega), if_neg (by omega)] at E
    simp only [Bool.and_eq_true, decide_eq_true_eq] at h h'
    obtain ⟨⟨⟨q1, rfl⟩, rfl⟩, q3⟩ := h
    obtain ⟨⟨⟨p1, rfl⟩, rfl⟩, p3⟩ := h'
    obtain ⟨rfl, rfl⟩ := one (by omega) (by omega) (by omega) (by omega) E
    rw [nod_zero q3, nod_zero p3]
    exact ⟨rfl, rfl⟩
theorem texts_inj {n m : Nat} (hn : n ≤ 1000000) (hm : m ≤ 1000000) : ∀ {l k : List Ins} {i : Nat}, (∀ x ∈ l, may n x = true) → (∀ x ∈ k, may m x = true) → texts i l = texts i k → l = k
  | [], [], _, _, _, _ => rfl
  | [], y :: k, i, _, _, E => by
    have := congrArg List.length E
    simp [texts, line] at this
  | x :: l, [], i, _, _, E => by
    have := congrArg List.length E
    simp [texts, line] at this
  | x :: l, y :: k, i, h, h', E => by
    simp only [texts, line, List.append_assoc] at E
    have E := List.append_cancel_left (List.append_cancel_left E)
    simp only [List.cons_append, List.nil_append] at E
    have m1 := h x (by simp)
    have m2 := h' y (by simp)
    obtain ⟨c, u, e1, hc⟩ := opd_head x (texts (i + 1) l)
    obtain ⟨c', u', e2, hc'⟩ := opd_head y (texts (i + 1) k)
    have E' := E
    rw [e1, e2] at E'
    obtain ⟨E1, E2⟩ := words (dl_nmb hc) (dl_nmb hc') (nm_nmb _) (nm_nmb _) E'
    have ho := nm_inj (may_op m1) (may_op m2) E1
    rw [← e1, ← e2] at E2
    obtain ⟨rfl, E3⟩ := opd_inj m1 m2 hn hm ho E2
    rw [texts_inj hn hm (fun z hz => h z (by simp [hz])) (fun z hz => h' z (by simp [hz])) E3]
/-- unlike code has unlike text -/
theorem text_iff {l k : List Ins} (h : rgt l = true) (h' : rgt k = true) : texts 0 l = texts 0 k ↔ l = k := by
  refine ⟨fun E => ?_, fun E => by rw [E]⟩
  have a := rgt_len h
  have b := rgt_len h'
  simp only [rgt, Bool.and_eq_true, List.all_eq_true] at h h'
  exact texts_inj (n := l.length) (m := k.length) (by omega) (by omega) h.2 h'.2 E
end Go.Proofs.YthfelkcomhflnaaDoor.CD

/- The law CodeLines, walked. -/
namespace Go.Proofs.YthfelkcomhflnaaDoor
open Go.ChangeShapes Go.WideShapes Go.ChangeAt Go.RowKit Go.Deep
open CD (Ins)

theorem bytes_two {X Y : ByteArray} (h : ¬ X = Y) : (X.toList == Y.toList) = false ∧ ¬ X.toList = Y.toList ∧ (X.toList != Y.toList) = true := by
  have e : ¬ X.toList = Y.toList := fun e => h (bytes_ext (by rw [← ByteArray.toList_eq, ← ByteArray.toList_eq]; exact e))
  exact ⟨by simpa using e, e, by simpa using e⟩
theorem texts_full {l : List Ins} (h : 1 ≤ l.length) : 1 ≤ (CD.texts 0 l).length := by
  cases l with
  | nil => simp at h
  | cons x r => simp [CD.texts, CD.line]; omega
set_option maxRecDepth 100000 in
set_option maxHeartbeats 8000000 in
theorem codeLines_walk (a b : List Ins) (w : World) (va vb : Value) (ha : IIn w va a) (hb : IIn w vb b) (hT : Tab w) : Calls Tryd.prog 4 #[va, vb] w fun e w' => e = .returned (.bool true) ∧ Below w.heap.size w w' := by
  have hAw := Lib.hid (fun (w' : World) (k : Below w.heap.size w w') => awake16_any w' (hT.on k))
  have hTb := Lib.hid (fun (w' : World) (k : Below w.heap.size w w') => hT.on k)
  have hSa := Lib.hid (fun (w' : World) (k : Below w.heap.size w w') => csmall_any a w' va (ha.below k))
  have hSb := Lib.hid (fun (w' : World) (k : Below w.heap.size w w') => csmall_any b w' vb (hb.below k))
  have hEq := Lib.hid (fun (w' : World) (k : Below w.heap.size w w') => requal16_any a b w' va vb (ha.below k) (hb.below k))
  obtain ⟨sa, hsa⟩ : ∃ sa, csml a = sa := ⟨_, rfl⟩
  obtain ⟨sb, hsb⟩ : ∃ sb, csml b = sb := ⟨_, rfl⟩
  rw [hsa] at hSa
  rw [hsb] at hSb
  have hb0 := Below.refl w.heap.size w
  have ha' := Lib.hid ha
  have hb' := Lib.hid hb
  obtain ⟨A1, n1, c1, rfl⟩ : ∃ A n c, va = .slice A n c := by obtain ⟨A, c, e⟩ := ha.read; exact ⟨_, _, _, e⟩
  obtain ⟨A2, n2, c2, rfl⟩ : ∃ A n c, vb = .slice A n c := by obtain ⟨A, c, e⟩ := hb.read; exact ⟨_, _, _, e⟩
  clear ha hb hT
  cases sa
  · clear hEq hSb
    have st0 : True := trivial
    go_enter Tryd.func4, Tryd.ntmps4
    go_wp2_with (first
      | (clear st0
         go_at_call 6
         refine (hAw.out _ hb0).mono ?_
         rintro e w1 ⟨rfl, hq⟩
         have hb1 : Below w.heap.size w w1 := Below.trans hb0 (Below.mono hq (Below.size hb0))
         clear hq
         have st1 : True := trivial)
      | (clear st1
         go_at_call 7
         refine (hSa.out _ hb1).mono ?_
         rintro e w2 ⟨rfl, hq⟩
         have hb2 : Below w.heap.size w w2 := Below.trans hb1 (Below.mono hq (Below.size hb1))
         clear hq
         have st2 : True := trivial)
      | (clear st2
         go_at_call 6
         refine (hAw.out _ hb2).mono ?_
         rintro e w3 ⟨rfl, hq⟩
         have hb3 : Below w.heap.size w w3 := Below.trans hb2 (Below.mono hq (Below.size hb2))
         clear hq
         have st3 : True := trivial))
    go_ret
    exact ⟨rfl, hb3⟩
  cases sb
  · clear hEq
    have st0 : True := trivial
    go_enter Tryd.func4, Tryd.ntmps4
    go_wp2_with (first
      | (clear st0
         go_at_call 6
         refine (hAw.out _ hb0).mono ?_
         rintro e w1 ⟨rfl, hq⟩
         have hb1 : Below w.heap.size w w1 := Below.trans hb0 (Below.mono hq (Below.size hb0))
         clear hq
         have st1 : True := trivial)
      | (clear st1
         go_at_call 7
         refine (hSa.out _ hb1).mono ?_
         rintro e w2 ⟨rfl, hq⟩
         have hb2 : Below w.heap.size w w2 := Below.trans hb1 (Below.mono hq (Below.size hb1))
         clear hq
         have st2 : True := trivial)
      | (clear st2
         go_at_call 7
         refine (hSb.out _ hb2).mono ?_
         rintro e w3 ⟨rfl, hq⟩
         have hb3 : Below w.heap.size w w3 := Below.trans hb2 (Below.mono hq (Below.size hb2))
         clear hq
         have st3 : True := trivial)
      | (clear st3
         go_at_call 6
         refine (hAw.out _ hb3).mono ?_
         rintro e w4 ⟨rfl, hq⟩
         have hb4 : Below w.heap.size w w4 := Below.trans hb3 (Below.mono hq (Below.size hb3))
         clear hq
         have st4 : True := trivial))
    go_ret
    exact ⟨rfl, hb4⟩
  obtain ⟨hia, hla⟩ := csml_ism hsa
  obtain ⟨hib, hlb⟩ := csml_ism hsb
  have hOa := Lib.hid (fun (w' : World) (k : Below w.heap.size w w') => iown_any a w' _ (ha'.out.below k) hia)
  have hOb := Lib.hid (fun (w' : World) (k : Below w.heap.size w w') => iown_any b w' _ (hb'.out.below k) hib)
  have hXa := Lib.hid (fun (w' : World) (u : Value) (k : IIn w' u a) (t : Tab w') => text16_any a w' u k t)
  have hXb := Lib.hid (fun (w' : World) (u : Value) (k : IIn w' u b) (t : Tab w') => text16_any b w' u k t)
  obtain ⟨ra, hra⟩ : ∃ ra, CD.rgt a = ra := ⟨_, rfl⟩
  obtain ⟨rb, hrb⟩ : ∃ rb, CD.rgt b = rb := ⟨_, rfl⟩
  rw [hra] at hXa
  rw [hrb] at hXb
  have hra' := Lib.hid hra
  have hrb' := Lib.hid hrb
  clear hia hib hsa hsb hra hrb ha' hb'
  cases ra
  · clear hEq
    unfold cer at hXa
    cases rb
    all_goals unfold cer at hXb
    · have st0 : True := trivial
      go_enter Tryd.func4, Tryd.ntmps4
      go_wp2_with (first
        | (clear st0
           go_at_call 6
           refine (hAw.out _ hb0).mono ?_
           rintro e w1 ⟨rfl, hq⟩
           have hb1 : Below w.heap.size w w1 := Below.trans hb0 (Below.mono hq (Below.size hb0))
           clear hq
           have st1 : True := trivial)
        | (clear st1
           go_at_call 7
           refine (hSa.out _ hb1).mono ?_
           rintro e w2 ⟨rfl, hq⟩
           have hb2 : Below w.heap.size w w2 := Below.trans hb1 (Below.mono hq (Below.size hb1))
           clear hq
           have st2 : True := trivial)
        | (clear st2
           go_at_call 7
           refine (hSb.out _ hb2).mono ?_
           rintro e w3 ⟨rfl, hq⟩
           have hb3 : Below w.heap.size w w3 := Below.trans hb2 (Below.mono hq (Below.size hb2))
           clear hq
           have st3 : True := trivial)
        | (clear st3
           go_at_call 9
           refine (hOa.out _ hb3).mono ?_
           rintro e w4 ⟨v8, rfl, hI8, hq⟩
           have hb4 : Below w.heap.size w w4 := Below.trans hb3 (Below.mono hq (Below.size hb3))
           have hI8' := Lib.hid (hI8.iin (by omega))
           obtain ⟨A8, c8, e8⟩ := hI8.read
           subst e8
           clear hI8 hq
           have st4 : True := trivial)
        | (clear st4
           go_at_call 13
           refine (hXa.out _ _ hI8'.out (hTb.out _ hb4)).mono ?_
           rintro e w5 ⟨⟨X, rfl, hX⟩, hq⟩
           have hb5 : Below w.heap.size w w5 := Below.trans hb4 (Below.mono hq (Below.size hb4))
           obtain rfl : X = ⟨#[]⟩ := bytes_ext (by rw [hX]; simp)
           clear hX
           clear hq
           have st5 : True := trivial)
        | (clear st5
           go_at_call 9
           refine (hOb.out _ hb5).mono ?_
           rintro e w6 ⟨v9, rfl, hI9, hq⟩
           have hb6 : Below w.heap.size w w6 := Below.trans hb5 (Below.mono hq (Below.size hb5))
           have hI9' := Lib.hid (hI9.iin (by omega))
           obtain ⟨A9, c9, e9⟩ := hI9.read
           subst e9
           clear hI9 hq
           have st6 : True := trivial)
        | (clear st6
           go_at_call 13
           refine (hXb.out _ _ hI9'.out (hTb.out _ hb6)).mono ?_
           rintro e w7 ⟨⟨Y, rfl, hY⟩, hq⟩
           have hb7 : Below w.heap.size w w7 := Below.trans hb6 (Below.mono hq (Below.size hb6))
           obtain rfl : Y = ⟨#[]⟩ := bytes_ext (by rw [hY]; simp)
           clear hY
           clear hq
           have st7 : True := trivial))
      go_ret
      exact ⟨rfl, hb7⟩
    · have st0 : True := trivial
      go_enter Tryd.func4, Tryd.ntmps4
      go_wp2_with (first
        | (clear st0
           go_at_call 6
           refine (hAw.out _ hb0).mono ?_
           rintro e w1 ⟨rfl, hq⟩
           have hb1 : Below w.heap.size w w1 := Below.trans hb0 (Below.mono hq (Below.size hb0))
           clear hq
           have st1 : True := trivial)
        | (clear st1
           go_at_call 7
           refine (hSa.out _ hb1).mono ?_
           rintro e w2 ⟨rfl, hq⟩
           have hb2 : Below w.heap.size w w2 := Below.trans hb1 (Below.mono hq (Below.size hb1))
           clear hq
           have st2 : True := trivial)
        | (clear st2
           go_at_call 7
           refine (hSb.out _ hb2).mono ?_
           rintro e w3 ⟨rfl, hq⟩
           have hb3 : Below w.heap.size w w3 := Below.trans hb2 (Below.mono hq (Below.size hb2))
           clear hq
           have st3 : True := trivial)
        | (clear st3
           go_at_call 9
           refine (hOa.out _ hb3).mono ?_
           rintro e w4 ⟨v8, rfl, hI8, hq⟩
           have hb4 : Below w.heap.size w w4 := Below.trans hb3 (Below.mono hq (Below.size hb3))
           have hI8' := Lib.hid (hI8.iin (by omega))
           obtain ⟨A8, c8, e8⟩ := hI8.read
           subst e8
           clear hI8 hq
           have st4 : True := trivial)
        | (clear st4
           go_at_call 13
           refine (hXa.out _ _ hI8'.out (hTb.out _ hb4)).mono ?_
           rintro e w5 ⟨⟨X, rfl, hX⟩, hq⟩
           have hb5 : Below w.heap.size w w5 := Below.trans hb4 (Below.mono hq (Below.size hb4))
           obtain rfl : X = ⟨#[]⟩ := bytes_ext (by rw [hX]; simp)
           clear hX
           clear hq
           have st5 : True := trivial)
        | (clear st5
           go_at_call 9
           refine (hOb.out _ hb5).mono ?_
           rintro e w6 ⟨v9, rfl, hI9, hq⟩
           have hb6 : Below w.heap.size w w6 := Below.trans hb5 (Below.mono hq (Below.size hb5))
           have hI9' := Lib.hid (hI9.iin (by omega))
           obtain ⟨A9, c9, e9⟩ := hI9.read
           subst e9
           clear hI9 hq
           have st6 : True := trivial)
        | (clear st6
           go_at_call 13
           refine (hXb.out _ _ hI9'.out (hTb.out _ hb6)).mono ?_
           rintro e w7 ⟨⟨Y, rfl, hY⟩, hq⟩
           have hb7 : Below w.heap.size w w7 := Below.trans hb6 (Below.mono hq (Below.size hb6))
           simp only [if_true] at hY
           have fY : 1 ≤ Y.size := by rw [csize hY]; exact texts_full (CD.rgt_len hrb'.out).1
           obtain ⟨gY, kY⟩ := empty_no fY
           have hY' := Lib.hid hY
           clear hY fY
           clear hq
           have st7 : True := trivial))
      go_ret
      exact ⟨rfl, hb7⟩
  unfold cer at hXa
  cases rb
  · clear hEq
    unfold cer at hXb
    have st0 : True := trivial
    go_enter Tryd.func4, Tryd.ntmps4
    go_wp2_with (first
      | (clear st0
         go_at_call 6
         refine (hAw.out _ hb0).mono ?_
         rintro e w1 ⟨rfl, hq⟩
         have hb1 : Below w.heap.size w w1 := Below.trans hb0 (Below.mono hq (Below.size hb0))
         clear hq
         have st1 : True := trivial)
      | (clear st1
         go_at_call 7
         refine (hSa.out _ hb1).mono ?_
         rintro e w2 ⟨rfl, hq⟩
         have hb2 : Below w.heap.size w w2 := Below.trans hb1 (Below.mono hq (Below.size hb1))
         clear hq
         have st2 : True := trivial)
      | (clear st2
         go_at_call 7
         refine (hSb.out _ hb2).mono ?_
         rintro e w3 ⟨rfl, hq⟩
         have hb3 : Below w.heap.size w w3 := Below.trans hb2 (Below.mono hq (Below.size hb2))
         clear hq
         have st3 : True := trivial)
      | (clear st3
         go_at_call 9
         refine (hOa.out _ hb3).mono ?_
         rintro e w4 ⟨v8, rfl, hI8, hq⟩
         have hb4 : Below w.heap.size w w4 := Below.trans hb3 (Below.mono hq (Below.size hb3))
         have hI8' := Lib.hid (hI8.iin (by omega))
         obtain ⟨A8, c8, e8⟩ := hI8.read
         subst e8
         clear hI8 hq
         have st4 : True := trivial)
      | (clear st4
         go_at_call 13
         refine (hXa.out _ _ hI8'.out (hTb.out _ hb4)).mono ?_
         rintro e w5 ⟨⟨X, rfl, hX⟩, hq⟩
         have hb5 : Below w.heap.size w w5 := Below.trans hb4 (Below.mono hq (Below.size hb4))
         simp only [if_true] at hX
         have fX : 1 ≤ X.size := by rw [csize hX]; exact texts_full (CD.rgt_len hra'.out).1
         obtain ⟨gX, kX⟩ := empty_no fX
         have hX' := Lib.hid hX
         clear hX fX
         clear hq
         have st5 : True := trivial)
      | (clear st5
         go_at_call 9
         refine (hOb.out _ hb5).mono ?_
         rintro e w6 ⟨v9, rfl, hI9, hq⟩
         have hb6 : Below w.heap.size w w6 := Below.trans hb5 (Below.mono hq (Below.size hb5))
         have hI9' := Lib.hid (hI9.iin (by omega))
         obtain ⟨A9, c9, e9⟩ := hI9.read
         subst e9
         clear hI9 hq
         have st6 : True := trivial)
      | (clear st6
         go_at_call 13
         refine (hXb.out _ _ hI9'.out (hTb.out _ hb6)).mono ?_
         rintro e w7 ⟨⟨Y, rfl, hY⟩, hq⟩
         have hb7 : Below w.heap.size w w7 := Below.trans hb6 (Below.mono hq (Below.size hb6))
         obtain rfl : Y = ⟨#[]⟩ := bytes_ext (by rw [hY]; simp)
         clear hY
         clear hq
         have st7 : True := trivial))
    go_ret
    exact ⟨rfl, hb7⟩
  unfold cer at hXb
  by_cases hab : a = b
  · have hab' := Lib.hid hab
    clear hab
    have st0 : True := trivial
    go_enter Tryd.func4, Tryd.ntmps4
    go_wp2_with (first
      | (clear st0
         go_at_call 6
         refine (hAw.out _ hb0).mono ?_
         rintro e w1 ⟨rfl, hq⟩
         have hb1 : Below w.heap.size w w1 := Below.trans hb0 (Below.mono hq (Below.size hb0))
         clear hq
         have st1 : True := trivial)
      | (clear st1
         go_at_call 7
         refine (hSa.out _ hb1).mono ?_
         rintro e w2 ⟨rfl, hq⟩
         have hb2 : Below w.heap.size w w2 := Below.trans hb1 (Below.mono hq (Below.size hb1))
         clear hq
         have st2 : True := trivial)
      | (clear st2
         go_at_call 7
         refine (hSb.out _ hb2).mono ?_
         rintro e w3 ⟨rfl, hq⟩
         have hb3 : Below w.heap.size w w3 := Below.trans hb2 (Below.mono hq (Below.size hb2))
         clear hq
         have st3 : True := trivial)
      | (clear st3
         go_at_call 9
         refine (hOa.out _ hb3).mono ?_
         rintro e w4 ⟨v8, rfl, hI8, hq⟩
         have hb4 : Below w.heap.size w w4 := Below.trans hb3 (Below.mono hq (Below.size hb3))
         have hI8' := Lib.hid (hI8.iin (by omega))
         obtain ⟨A8, c8, e8⟩ := hI8.read
         subst e8
         clear hI8 hq
         have st4 : True := trivial)
      | (clear st4
         go_at_call 13
         refine (hXa.out _ _ hI8'.out (hTb.out _ hb4)).mono ?_
         rintro e w5 ⟨⟨X, rfl, hX⟩, hq⟩
         have hb5 : Below w.heap.size w w5 := Below.trans hb4 (Below.mono hq (Below.size hb4))
         simp only [if_true] at hX
         have fX : 1 ≤ X.size := by rw [csize hX]; exact texts_full (CD.rgt_len hra'.out).1
         obtain ⟨gX, kX⟩ := empty_no fX
         have hX' := Lib.hid hX
         clear hX fX
         clear hq
         have st5 : True := trivial)
      | (clear st5
         go_at_call 9
         refine (hOb.out _ hb5).mono ?_
         rintro e w6 ⟨v9, rfl, hI9, hq⟩
         have hb6 : Below w.heap.size w w6 := Below.trans hb5 (Below.mono hq (Below.size hb5))
         have hI9' := Lib.hid (hI9.iin (by omega))
         obtain ⟨A9, c9, e9⟩ := hI9.read
         subst e9
         clear hI9 hq
         have st6 : True := trivial)
      | (clear st6
         go_at_call 13
         refine (hXb.out _ _ hI9'.out (hTb.out _ hb6)).mono ?_
         rintro e w7 ⟨⟨Y, rfl, hY⟩, hq⟩
         have hb7 : Below w.heap.size w w7 := Below.trans hb6 (Below.mono hq (Below.size hb6))
         simp only [if_true] at hY
         obtain rfl : Y = X := bytes_ext (by rw [hY, hX'.out, hab'.out])
         clear hY
         clear hq
         have st7 : True := trivial)
      | (clear st7
         go_at_call 14
         refine (hEq.out _ hb7).mono ?_
         rintro e w9 ⟨r, rfl, hr, hq⟩
         have hb9 : Below w.heap.size w w9 := Below.trans hb7 (Below.mono hq (Below.size hb7))
         obtain rfl : r = true := hr.2 hab'.out
         clear hr hq
         have st8 : True := trivial))
    go_ret
    exact ⟨rfl, hb9⟩
  · have st0 : True := trivial
    go_enter Tryd.func4, Tryd.ntmps4
    go_wp2_with (first
      | (clear st0
         go_at_call 6
         refine (hAw.out _ hb0).mono ?_
         rintro e w1 ⟨rfl, hq⟩
         have hb1 : Below w.heap.size w w1 := Below.trans hb0 (Below.mono hq (Below.size hb0))
         clear hq
         have st1 : True := trivial)
      | (clear st1
         go_at_call 7
         refine (hSa.out _ hb1).mono ?_
         rintro e w2 ⟨rfl, hq⟩
         have hb2 : Below w.heap.size w w2 := Below.trans hb1 (Below.mono hq (Below.size hb1))
         clear hq
         have st2 : True := trivial)
      | (clear st2
         go_at_call 7
         refine (hSb.out _ hb2).mono ?_
         rintro e w3 ⟨rfl, hq⟩
         have hb3 : Below w.heap.size w w3 := Below.trans hb2 (Below.mono hq (Below.size hb2))
         clear hq
         have st3 : True := trivial)
      | (clear st3
         go_at_call 9
         refine (hOa.out _ hb3).mono ?_
         rintro e w4 ⟨v8, rfl, hI8, hq⟩
         have hb4 : Below w.heap.size w w4 := Below.trans hb3 (Below.mono hq (Below.size hb3))
         have hI8' := Lib.hid (hI8.iin (by omega))
         obtain ⟨A8, c8, e8⟩ := hI8.read
         subst e8
         clear hI8 hq
         have st4 : True := trivial)
      | (clear st4
         go_at_call 13
         refine (hXa.out _ _ hI8'.out (hTb.out _ hb4)).mono ?_
         rintro e w5 ⟨⟨X, rfl, hX⟩, hq⟩
         have hb5 : Below w.heap.size w w5 := Below.trans hb4 (Below.mono hq (Below.size hb4))
         simp only [if_true] at hX
         have fX : 1 ≤ X.size := by rw [csize hX]; exact texts_full (CD.rgt_len hra'.out).1
         obtain ⟨gX, kX⟩ := empty_no fX
         have hX' := Lib.hid hX
         clear hX fX
         clear hq
         have st5 : True := trivial)
      | (clear st5
         go_at_call 9
         refine (hOb.out _ hb5).mono ?_
         rintro e w6 ⟨v9, rfl, hI9, hq⟩
         have hb6 : Below w.heap.size w w6 := Below.trans hb5 (Below.mono hq (Below.size hb5))
         have hI9' := Lib.hid (hI9.iin (by omega))
         obtain ⟨A9, c9, e9⟩ := hI9.read
         subst e9
         clear hI9 hq
         have st6 : True := trivial)
      | (clear st6
         go_at_call 13
         refine (hXb.out _ _ hI9'.out (hTb.out _ hb6)).mono ?_
         rintro e w7 ⟨⟨Y, rfl, hY⟩, hq⟩
         have hb7 : Below w.heap.size w w7 := Below.trans hb6 (Below.mono hq (Below.size hb6))
         simp only [if_true] at hY
         have hXY : ¬ X = Y := fun e => hab ((CD.text_iff hra'.out hrb'.out).1 (by rw [← hX'.out, ← hY, e]))
         obtain ⟨t1, t2, t3⟩ := bytes_two hXY
         clear hY
         clear hq
         have st7 : True := trivial)
      | (clear st7
         go_at_call 14
         refine (hEq.out _ hb7).mono ?_
         rintro e w9 ⟨r, rfl, hr, hq⟩
         have hb9 : Below w.heap.size w w9 := Below.trans hb7 (Below.mono hq (Below.size hb7))
         obtain rfl : r = false := by cases r with | false => rfl | true => exact absurd (hr.1 rfl) hab
         clear hr hq
         have st8 : True := trivial))
    go_ret
    exact ⟨rfl, hb9⟩
end Go.Proofs.YthfelkcomhflnaaDoor

