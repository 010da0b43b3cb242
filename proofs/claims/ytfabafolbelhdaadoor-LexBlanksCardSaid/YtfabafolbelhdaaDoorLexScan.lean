/- What package lex gives of a character, a string, and what stands anywhere. -/
import Derived.Test.YtfabafolbelhdaaDoorLexWord
namespace Go.Proofs.YtfabafolbelhdaaDoor
open Go.ChangeShapes Go.WideShapes Go.ChangeAt Go.RowKit

theorem extract_drop (s : ByteArray) (k : Nat) : (s.extract k s.size).data.toList = s.data.toList.drop k := Lib.extract_to_end s k
theorem extract_take (s : ByteArray) (k : Nat) : (s.extract 0 k).data.toList = s.data.toList.take k := by simp
theorem chr_cons {s t : ByteArray} {q : Nat} (ht : t.data.toList = s.data.toList.drop 2) (h0 : 1 ≤ t.size) (hq : LM.wln (t.extract 1 t.size).data.toList = q) :
    1 + q ≤ t.size ∧ LM.chr (s.data.toList.drop 2) = if LM.cho (t.extract 0 (1 + q)).data.toList = -1 then LM.bad 6 else LM.tok 11 (LM.cho (t.extract 0 (1 + q)).data.toList) [] (3 + q) := by
  rw [extract_drop] at hq
  have hl := LM.wln_le (t.data.toList.drop 1)
  rw [hq, List.length_drop, size_len] at hl
  refine ⟨by omega, ?_⟩
  rw [extract_take, ← ht, cons_of (s := t) (by omega), LM.chr, hq]
  rw [Nat.add_comm 1 q, List.take_succ_cons]

theorem char_any (s : ByteArray) (h2 : 2 ≤ s.size) (hs : s.size ≤ 281474976710656) (w : World) :
    Calls Tryd.prog 52 #[.string s] w fun e w' => e = .returned (tka (LM.chr (s.data.toList.drop 2))) ∧ Went w w' := by
  obtain ⟨t, ht⟩ : ∃ t, s.extract 2 s.size = t := ⟨_, rfl⟩
  have hd : t.data.toList = s.data.toList.drop 2 := by rw [← ht, extract_drop]
  have hz : t.size + 2 = s.size := by have := size_len t; rw [hd, List.length_drop, size_len] at this; omega
  by_cases h0 : 1 ≤ t.size
  · obtain ⟨e1, e3⟩ := empty_no h0
    obtain ⟨q, hq⟩ : ∃ q, LM.wln (t.extract 1 t.size).data.toList = q := ⟨_, rfl⟩
    obtain ⟨hq1, hc⟩ := chr_cons hd h0 hq
    rw [hc]
    have hwe := wordEnd_any (t.extract 1 t.size) (by simp; omega)
    rw [hq] at hwe
    have hco := charOf_any (t.extract 0 (1 + q)) (by simp; omega) (by simp; omega)
    have hsz : (t.extract 0 (1 + q)).size = 1 + q := by simp; omega
    clear hc hq hd
    generalize LM.cho (t.extract 0 (1 + q)).data.toList = c at *
    by_cases hc : c = -1
    · subst hc
      rw [if_pos rfl]
      have hco' := Lib.hid hco
      have hwe' := Lib.hid hwe
      clear hco hwe hsz
      go_enter Tryd.func52, Tryd.ntmps52
      go_wp2_with (first
        | (go_at_call 55; refine (hwe'.out _).mono ?_; rintro e w' ⟨rfl, rfl⟩)
        | (go_at_call 60; refine (hco'.out _).mono ?_; rintro e w' ⟨rfl, rfl⟩; unfold cov; rw [if_pos rfl]))
      exact bodyPost_ret (v := .tuple #[.agg #[.int .i64 0, .int .i64 0, .string ⟨#[]⟩, .int .i64 0, .int .i64 0, .int .i64 0], .iface 48 (.int .i64 6)]) (by simp [results, Tryd.results52, go_sem]) rfl ⟨rfl, (Below.refl _ _).alloc (Nat.le_refl _) _⟩
    · rw [if_neg hc]
      have hcv : cov c = .tuple #[.int .i64 c, .bool true] := by unfold cov; rw [if_neg hc]
      rw [hcv] at hco
      have hco' := Lib.hid hco
      have hwe' := Lib.hid hwe
      clear hco hwe hcv hc
      go_enter Tryd.func52, Tryd.ntmps52
      go_wp2_with (first
        | (go_at_call 55; refine (hwe'.out _).mono ?_; rintro e w' ⟨rfl, rfl⟩)
        | (go_at_call 60; refine (hco'.out _).mono ?_; rintro e w' ⟨rfl, rfl⟩))
      refine bodyPost_ret (v := .tuple #[.agg #[.int .i64 11, .int .i64 c, .string ⟨#[]⟩, .int .i64 0, .int .i64 0, .int .i64 (3 + q : Nat)], .nilIface]) (by simp [results, Tryd.results52, go_sem]; omega) rfl ⟨rfl, (Below.refl _ _).alloc (Nat.le_refl _) _⟩
  · obtain ⟨e1, e3, e4⟩ := empty_yes (s := t) (by omega)
    have hc : LM.chr (s.data.toList.drop 2) = LM.bad 6 := by rw [← hd, e4]; rfl
    rw [hc]
    clear hc hd e4
    go_enter Tryd.func52, Tryd.ntmps52
    go_wp2
    exact bodyPost_ret (v := .tuple #[.agg #[.int .i64 0, .int .i64 0, .string ⟨#[]⟩, .int .i64 0, .int .i64 0, .int .i64 0], .iface 48 (.int .i64 6)]) (by simp [results, Tryd.results52, go_sem]) rfl ⟨rfl, (Below.refl _ _).alloc (Nat.le_refl _) _⟩
end Go.Proofs.YtfabafolbelhdaaDoor
