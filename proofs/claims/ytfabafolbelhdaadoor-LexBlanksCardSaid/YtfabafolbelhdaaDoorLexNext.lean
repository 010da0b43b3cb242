/- What package lex gives of a text's token at any place. -/
import Derived.Test.YtfabafolbelhdaaDoorLexQuote
namespace Go.Proofs.YtfabafolbelhdaaDoor
open Go.ChangeShapes Go.WideShapes Go.ChangeAt Go.RowKit

theorem scn_cons {s : ByteArray} (h : 1 ≤ s.size) : LM.scn s.data.toList =
    if (s[0].toNat : Int) = 44 then (if LM.hd (s.data.toList.drop 1) = 64 then LM.tok 7 0 [] 2 else LM.tok 6 0 [] 1)
    else if (s[0].toNat : Int) = 35 ∧ LM.hd (s.data.toList.drop 1) = 40 then LM.tok 3 0 [] 2
    else if (s[0].toNat : Int) = 35 ∧ LM.hd (s.data.toList.drop 1) = 92 then LM.chr (s.data.toList.drop 2)
    else if (s[0].toNat : Int) = 40 then LM.tok 1 0 [] 1
    else if (s[0].toNat : Int) = 41 then LM.tok 2 0 [] 1
    else if (s[0].toNat : Int) = 39 then LM.tok 4 0 [] 1
    else if (s[0].toNat : Int) = 96 then LM.tok 5 0 [] 1
    else if (s[0].toNat : Int) = 34 then LM.ofq (LM.qt (s.data.toList.drop 1) [] 1)
    else LM.wrd (s.data.toList.take (LM.wln s.data.toList)) := by
  have e := cons_of (s := s) (by omega)
  have e2 : s.data.toList.drop 2 = (s.data.toList.drop 1).drop 1 := by rw [List.drop_drop]
  rw [e2]
  generalize s.data.toList.drop 1 = r at e ⊢
  rw [e, LM.scn]
theorem pre2_cons {s : ByteArray} (h : 1 ≤ s.size) (a b : Int) : pre2 a b s.data.toList = (decide ((s[0].toNat : Int) = a) && decide (LM.hd (s.data.toList.drop 1) = b)) := by
  have e := cons_of (s := s) (by omega)
  generalize s.data.toList.drop 1 = r at e ⊢
  rw [e, pre2]

/-- a call of mark, by its parts -/
theorem mark_at (k : Int) (b : ByteArray) (n : Nat) (hb : b.size = n) (w : World) :
    Calls Tryd.prog 50 #[.int .i64 k, .string b] w fun e w' => e = .returned (.agg #[.int .i64 k, .int .i64 0, .string ⟨#[]⟩, .int .i64 0, .int .i64 0, .int .i64 (n : Nat)]) ∧ Went w w' := hb ▸ mark_any k b w

section
variable (s : ByteArray) (h1 : 1 ≤ s.size) (w : World)
include h1
/-- the arms that make a token by its mark alone -/
theorem scan_mark (p1 p2 p3 : Bool) (hp1 : pre2 44 64 s.data.toList = p1) (hp2 : pre2 35 40 s.data.toList = p2) (hp3 : pre2 35 92 s.data.toList = p3) (k : Int) (n : Nat)
    (hk : p1 = true ∧ k = 7 ∧ n = 2 ∨ p1 = false ∧ p2 = true ∧ k = 3 ∧ n = 2 ∨ p1 = false ∧ p2 = false ∧ p3 = false ∧ n = 1 ∧ ((s[0].toNat : Int) = 40 ∧ k = 1 ∨ (s[0].toNat : Int) = 41 ∧ k = 2 ∨ (s[0].toNat : Int) = 39 ∧ k = 4 ∨ (s[0].toNat : Int) = 96 ∧ k = 5 ∨ (s[0].toNat : Int) = 44 ∧ k = 6)) :
    Calls Tryd.prog 40 #[.string s] w fun e w' => e = .returned (tka (LM.tok k 0 [] n)) ∧ Went w w' := by
  obtain ⟨e1, e3⟩ := empty_no h1
  have c1 := hasPrefix_two s 44 64
  have c2 := hasPrefix_two s 35 40
  have c3 := hasPrefix_two s 35 92
  rw [show pre2 ((44 : UInt8).toNat) ((64 : UInt8).toNat) s.data.toList = p1 from hp1] at c1
  rw [show pre2 ((35 : UInt8).toNat) ((40 : UInt8).toNat) s.data.toList = p2 from hp2] at c2
  rw [show pre2 ((35 : UInt8).toNat) ((92 : UInt8).toNat) s.data.toList = p3 from hp3] at c3
  have d1 := Lib.hid c1
  have d2 := Lib.hid c2
  have d3 := Lib.hid c3
  clear c1 c2 c3 hp1 hp2 hp3
  rcases hk with ⟨rfl, rfl, rfl⟩ | ⟨rfl, rfl, rfl, rfl⟩ | ⟨rfl, rfl, rfl, rfl, hk⟩
  · go_enter Tryd.func40, Tryd.ntmps40
    go_wp2_with (first
      | (go_at_call 51; (with_reducible refine (d1.out _).mono ?_); rintro e w' ⟨rfl, rfl⟩)
      | (go_at_call 50; refine (mark_at _ _ 2 rfl _).mono ?_; rintro e w1 ⟨rfl, hb⟩; obtain ⟨hc, hf⟩ := bcell hb))
    exact bodyPost_ret (v := .tuple #[.agg #[.int .i64 7, .int .i64 0, .string ⟨#[]⟩, .int .i64 0, .int .i64 0, .int .i64 2], .nilIface]) (by simp [results, Tryd.results40, go_sem, hc]) rfl ⟨rfl, below_six (below_new hb) (Nat.le_refl _) _ _ _ _ _ _⟩
  · go_enter Tryd.func40, Tryd.ntmps40
    go_wp2_with (first
      | (go_at_call 51; (with_reducible refine (d1.out _).mono ?_); rintro e w' ⟨rfl, rfl⟩)
      | (go_at_call 51; (with_reducible refine (d2.out _).mono ?_); rintro e w' ⟨rfl, rfl⟩)
      | (go_at_call 50; refine (mark_at _ _ 2 rfl _).mono ?_; rintro e w1 ⟨rfl, hb⟩; obtain ⟨hc, hf⟩ := bcell hb))
    exact bodyPost_ret (v := .tuple #[.agg #[.int .i64 3, .int .i64 0, .string ⟨#[]⟩, .int .i64 0, .int .i64 0, .int .i64 2], .nilIface]) (by simp [results, Tryd.results40, go_sem, hc]) rfl ⟨rfl, below_six (below_new hb) (Nat.le_refl _) _ _ _ _ _ _⟩
  · rcases hk with ⟨hx, rfl⟩ | ⟨hx, rfl⟩ | ⟨hx, rfl⟩ | ⟨hx, rfl⟩ | ⟨hx, rfl⟩
    all_goals
      go_enter Tryd.func40, Tryd.ntmps40
      go_wp2_with (first
        | (go_at_call 51; (with_reducible refine (d1.out _).mono ?_); rintro e w' ⟨rfl, rfl⟩)
        | (go_at_call 51; (with_reducible refine (d2.out _).mono ?_); rintro e w' ⟨rfl, rfl⟩)
        | (go_at_call 51; (with_reducible refine (d3.out _).mono ?_); rintro e w' ⟨rfl, rfl⟩)
        | (go_at_call 50; refine (mark_at _ _ 1 rfl _).mono ?_; rintro e w1 ⟨rfl, hb⟩; obtain ⟨hc, hf⟩ := bcell hb))
      exact bodyPost_ret (v := .tuple #[.agg #[.int .i64 _, .int .i64 0, .string ⟨#[]⟩, .int .i64 0, .int .i64 0, .int .i64 1], .nilIface]) (by simp [results, Tryd.results40, go_sem, hc]; rfl) rfl ⟨rfl, below_six (below_new hb) (Nat.le_refl _) _ _ _ _ _ _⟩

theorem scan_char (h2 : 2 ≤ s.size) (hs : s.size ≤ 281474976710656) (hp1 : pre2 44 64 s.data.toList = false) (hp2 : pre2 35 40 s.data.toList = false) (hp3 : pre2 35 92 s.data.toList = true) :
    Calls Tryd.prog 40 #[.string s] w fun e w' => e = .returned (tka (LM.chr (s.data.toList.drop 2))) ∧ Went w w' := by
  obtain ⟨e1, e3⟩ := empty_no h1
  have c1 := hasPrefix_two s 44 64
  have c2 := hasPrefix_two s 35 40
  have c3 := hasPrefix_two s 35 92
  rw [show pre2 ((44 : UInt8).toNat) ((64 : UInt8).toNat) s.data.toList = false from hp1] at c1
  rw [show pre2 ((35 : UInt8).toNat) ((40 : UInt8).toNat) s.data.toList = false from hp2] at c2
  rw [show pre2 ((35 : UInt8).toNat) ((92 : UInt8).toNat) s.data.toList = true from hp3] at c3
  have d1 := Lib.hid c1
  have d2 := Lib.hid c2
  have d3 := Lib.hid c3
  have hch := char_any s h2 hs
  generalize LM.chr (s.data.toList.drop 2) = T at *
  have hch' := Lib.hid hch
  clear c1 c2 c3 hp1 hp2 hp3 hch
  go_enter Tryd.func40, Tryd.ntmps40
  go_wp2_with (first
    | (go_at_call 51; (with_reducible refine (d1.out _).mono ?_); rintro e w' ⟨rfl, rfl⟩)
    | (go_at_call 51; (with_reducible refine (d2.out _).mono ?_); rintro e w' ⟨rfl, rfl⟩)
    | (go_at_call 51; (with_reducible refine (d3.out _).mono ?_); rintro e w' ⟨rfl, rfl⟩)
    | (go_at_call 52; refine (hch'.out _).mono ?_; rintro e w1 ⟨rfl, hb⟩; unfold tka; obtain ⟨hc, hf⟩ := bcell hb))
  exact bodyPost_ret (v := .tuple #[.agg #[.int .i64 T.k, .int .i64 T.n, .string ⟨T.s.toArray⟩, .int .i64 0, .int .i64 0, .int .i64 (T.len : Nat)], er T.e]) (by simp [results, Tryd.results40, go_sem, hc]) rfl ⟨rfl, below_six (below_new hb) (Nat.le_refl _) _ _ _ _ _ _⟩

theorem scan_quote (hs : s.size ≤ 281474976710656) (hp1 : pre2 44 64 s.data.toList = false) (hp2 : pre2 35 40 s.data.toList = false) (hp3 : pre2 35 92 s.data.toList = false) (hx : (s[0].toNat : Int) = 34) :
    Calls Tryd.prog 40 #[.string s] w fun e w' => e = .returned (tka (LM.ofq (LM.qt (s.data.toList.drop 1) [] 1))) ∧ Went w w' := by
  obtain ⟨e1, e3⟩ := empty_no h1
  have c1 := hasPrefix_two s 44 64
  have c2 := hasPrefix_two s 35 40
  have c3 := hasPrefix_two s 35 92
  rw [show pre2 ((44 : UInt8).toNat) ((64 : UInt8).toNat) s.data.toList = false from hp1] at c1
  rw [show pre2 ((35 : UInt8).toNat) ((40 : UInt8).toNat) s.data.toList = false from hp2] at c2
  rw [show pre2 ((35 : UInt8).toNat) ((92 : UInt8).toNat) s.data.toList = false from hp3] at c3
  have d1 := Lib.hid c1
  have d2 := Lib.hid c2
  have d3 := Lib.hid c3
  have hch := quoted_any s h1 hs
  generalize LM.ofq (LM.qt (s.data.toList.drop 1) [] 1) = T at *
  have hch' := Lib.hid hch
  clear c1 c2 c3 hp1 hp2 hp3 hch
  go_enter Tryd.func40, Tryd.ntmps40
  go_wp2_with (first
    | (go_at_call 51; (with_reducible refine (d1.out _).mono ?_); rintro e w' ⟨rfl, rfl⟩)
    | (go_at_call 51; (with_reducible refine (d2.out _).mono ?_); rintro e w' ⟨rfl, rfl⟩)
    | (go_at_call 51; (with_reducible refine (d3.out _).mono ?_); rintro e w' ⟨rfl, rfl⟩)
    | (go_at_call 53; refine (hch'.out _).mono ?_; rintro e w1 ⟨rfl, hb⟩; unfold tka; obtain ⟨hc, hf⟩ := bcell hb))
  exact bodyPost_ret (v := .tuple #[.agg #[.int .i64 T.k, .int .i64 T.n, .string ⟨T.s.toArray⟩, .int .i64 0, .int .i64 0, .int .i64 (T.len : Nat)], er T.e]) (by simp [results, Tryd.results40, go_sem, hc]) rfl ⟨rfl, below_six (below_new hb) (Nat.le_refl _) _ _ _ _ _ _⟩

theorem scan_word (hs : s.size ≤ 281474976710656) (hp1 : pre2 44 64 s.data.toList = false) (hp2 : pre2 35 40 s.data.toList = false) (hp3 : pre2 35 92 s.data.toList = false)
    (x1 : ((s[0].toNat : Int) == 40) = false) (x2 : ((s[0].toNat : Int) == 41) = false) (x3 : ((s[0].toNat : Int) == 39) = false) (x4 : ((s[0].toNat : Int) == 96) = false) (x5 : ((s[0].toNat : Int) == 44) = false) (x6 : ((s[0].toNat : Int) == 34) = false) :
    Calls Tryd.prog 40 #[.string s] w fun e w' => e = .returned (tka (LM.wrd (s.data.toList.take (LM.wln s.data.toList)))) ∧ Went w w' := by
  obtain ⟨e1, e3⟩ := empty_no h1
  have c1 := hasPrefix_two s 44 64
  have c2 := hasPrefix_two s 35 40
  have c3 := hasPrefix_two s 35 92
  rw [show pre2 ((44 : UInt8).toNat) ((64 : UInt8).toNat) s.data.toList = false from hp1] at c1
  rw [show pre2 ((35 : UInt8).toNat) ((40 : UInt8).toNat) s.data.toList = false from hp2] at c2
  rw [show pre2 ((35 : UInt8).toNat) ((92 : UInt8).toNat) s.data.toList = false from hp3] at c3
  have d1 := Lib.hid c1
  have d2 := Lib.hid c2
  have d3 := Lib.hid c3
  have hwe := wordEnd_any s (by omega)
  have hq := LM.wln_le s.data.toList
  rw [size_len] at hq
  generalize LM.wln s.data.toList = q at *
  have hch := word_any (s.extract 0 q) (by simp; omega)
  rw [extract_take] at hch
  generalize LM.wrd (s.data.toList.take q) = T at *
  have hch' := Lib.hid hch
  have hwe' := Lib.hid hwe
  clear c1 c2 c3 hp1 hp2 hp3 hch hwe
  go_enter Tryd.func40, Tryd.ntmps40
  go_wp2_with (first
    | (go_at_call 51; (with_reducible refine (d1.out _).mono ?_); rintro e w' ⟨rfl, rfl⟩)
    | (go_at_call 51; (with_reducible refine (d2.out _).mono ?_); rintro e w' ⟨rfl, rfl⟩)
    | (go_at_call 51; (with_reducible refine (d3.out _).mono ?_); rintro e w' ⟨rfl, rfl⟩)
    | (go_at_call 55; refine (hwe'.out _).mono ?_; rintro e w' ⟨rfl, rfl⟩)
    | (go_at_call 54; refine (hch'.out _).mono ?_; rintro e w1 ⟨rfl, hb⟩; unfold tka; obtain ⟨hc, hf⟩ := bcell hb))
  exact bodyPost_ret (v := .tuple #[.agg #[.int .i64 T.k, .int .i64 T.n, .string ⟨T.s.toArray⟩, .int .i64 0, .int .i64 0, .int .i64 (T.len : Nat)], er T.e]) (by simp [results, Tryd.results40, go_sem, hc]) rfl ⟨rfl, below_six (below_new hb) (Nat.le_refl _) _ _ _ _ _ _⟩
end

theorem scan_any (s : ByteArray) (hs : s.size ≤ 281474976710656) (w : World) :
    Calls Tryd.prog 40 #[.string s] w fun e w' => e = .returned (tka (LM.scn s.data.toList)) ∧ Went w w' := by
  by_cases h1 : 1 ≤ s.size
  · have P1 := pre2_cons h1 44 64
    have P2 := pre2_cons h1 35 40
    have P3 := pre2_cons h1 35 92
    have hsz : LM.hd (s.data.toList.drop 1) ≠ -1 → 2 ≤ s.size := fun h => by
      rcases Nat.lt_or_ge 1 s.size with k | k
      · exact k
      · exact absurd (by rw [drop_end (by omega)]; rfl) h
    rw [scn_cons h1]
    generalize LM.hd (s.data.toList.drop 1) = y at *
    by_cases x44 : (s[0].toNat : Int) = 44
    · rw [if_pos x44]
      by_cases y64 : y = 64
      · rw [if_pos y64]
        exact scan_mark s h1 w _ _ _ rfl rfl rfl 7 2 (.inl ⟨by rw [P1, decide_eq_true x44, decide_eq_true y64]; rfl, rfl, rfl⟩)
      · rw [if_neg y64]
        exact scan_mark s h1 w _ _ _ rfl rfl rfl 6 1 (.inr (.inr ⟨by rw [P1, decide_eq_false y64, Bool.and_false], by rw [P2, decide_eq_false (by omega), Bool.false_and], by rw [P3, decide_eq_false (by omega), Bool.false_and], rfl, .inr (.inr (.inr (.inr ⟨x44, rfl⟩)))⟩))
    rw [if_neg x44]
    have q1 : pre2 44 64 s.data.toList = false := by rw [P1, decide_eq_false x44, Bool.false_and]
    by_cases g1 : (s[0].toNat : Int) = 35 ∧ y = 40
    · rw [if_pos g1]
      exact scan_mark s h1 w _ _ _ rfl rfl rfl 3 2 (.inr (.inl ⟨q1, by rw [P2, decide_eq_true g1.1, decide_eq_true g1.2]; rfl, rfl, rfl⟩))
    rw [if_neg g1]
    have q2 : pre2 35 40 s.data.toList = false := by
      rw [P2, ← Bool.decide_and, decide_eq_false g1]
    by_cases g2 : (s[0].toNat : Int) = 35 ∧ y = 92
    · rw [if_pos g2]
      exact scan_char s h1 w (hsz (by omega)) hs q1 q2 (by rw [P3, decide_eq_true g2.1, decide_eq_true g2.2]; rfl)
    rw [if_neg g2]
    have q3 : pre2 35 92 s.data.toList = false := by
      rw [P3, ← Bool.decide_and, decide_eq_false g2]
    by_cases x40 : (s[0].toNat : Int) = 40
    · rw [if_pos x40]
      exact scan_mark s h1 w _ _ _ rfl rfl rfl 1 1 (.inr (.inr ⟨q1, q2, q3, rfl, .inl ⟨x40, rfl⟩⟩))
    rw [if_neg x40]
    by_cases x41 : (s[0].toNat : Int) = 41
    · rw [if_pos x41]
      exact scan_mark s h1 w _ _ _ rfl rfl rfl 2 1 (.inr (.inr ⟨q1, q2, q3, rfl, .inr (.inl ⟨x41, rfl⟩)⟩))
    rw [if_neg x41]
    by_cases x39 : (s[0].toNat : Int) = 39
    · rw [if_pos x39]
      exact scan_mark s h1 w _ _ _ rfl rfl rfl 4 1 (.inr (.inr ⟨q1, q2, q3, rfl, .inr (.inr (.inl ⟨x39, rfl⟩))⟩))
    rw [if_neg x39]
    by_cases x96 : (s[0].toNat : Int) = 96
    · rw [if_pos x96]
      exact scan_mark s h1 w _ _ _ rfl rfl rfl 5 1 (.inr (.inr ⟨q1, q2, q3, rfl, .inr (.inr (.inr (.inl ⟨x96, rfl⟩)))⟩))
    rw [if_neg x96]
    by_cases x34 : (s[0].toNat : Int) = 34
    · rw [if_pos x34]
      exact scan_quote s h1 w hs q1 q2 q3 x34
    rw [if_neg x34]
    exact scan_word s h1 w hs q1 q2 q3 (by simpa using x40) (by simpa using x41) (by simpa using x39) (by simpa using x96) (by simpa using x44) (by simpa using x34)
  · obtain ⟨e1, e3, e4⟩ := empty_yes (s := s) (by omega)
    rw [e4, show LM.scn [] = LM.tok 14 0 [] 0 from rfl]
    clear e4
    go_enter Tryd.func40, Tryd.ntmps40
    go_wp2_with (go_at_call 50; refine (mark_at _ _ 0 rfl _).mono ?_; rintro e w1 ⟨rfl, hb⟩; obtain ⟨hc, hf⟩ := bcell hb)
    exact bodyPost_ret (v := .tuple #[.agg #[.int .i64 14, .int .i64 0, .string ⟨#[]⟩, .int .i64 0, .int .i64 0, .int .i64 0], .nilIface]) (by simp [results, Tryd.results40, go_sem, hc]) rfl ⟨rfl, below_six (below_new hb) (Nat.le_refl _) _ _ _ _ _ _⟩
end Go.Proofs.YtfabafolbelhdaaDoor
