/- What package lex gives of a word: may it be a name, which token is it. -/
import Derived.Test.YtbomodendobnkaaGreatQ22
namespace Go.Proofs.YtbomodendobnkaaGreat
open Go.ChangeShapes Go.WideShapes Go.ChangeAt Go.RowKit

/-- errors.Is(nil, k) -/
theorem is_nil (b : Int) (w : World) :
    Calls Tryz.prog 12 #[.nilIface, .iface 47 (.int .i64 b)] w fun e w' => e = .returned (.bool false) ∧ w = w' := by
  have hx : ∀ (v : Value) (w : World), (binOp .eql 45 .nilIface (.iface 47 v)).run Tryz.prog w = .ok (.bool false) w := fun v w => run_eql_iface_nil_left w 47 v Tryz.underlying45
  go_enter Tryz.func12, Tryz.ntmps12
  go_wp2
  go_ret
  exact ⟨rfl, rfl⟩

theorem parse_kind (l : List UInt8) : (FM.okd (FM.body l) = false ∧ FM.parse l = (0, 6)) ∨ (FM.okd (FM.body l) = true ∧ ((∃ n, FM.parse l = (n, 0)) ∨ FM.parse l = (0, 11))) := by
  unfold FM.parse
  cases FM.okd (FM.body l) with
  | false => exact .inl ⟨rfl, rfl⟩
  | true =>
    refine .inr ⟨rfl, ?_⟩
    rw [if_pos rfl]
    unfold FM.bd
    split
    · exact .inl ⟨_, rfl⟩
    · exact .inr rfl

theorem all_go {s : ByteArray} {k : Nat} (h : k < s.size) (H : (s.data.toList.take k).all (fun c => LM.nmb c.toNat) = true) (hd : LM.nmb (s[k].toNat : Int) = true) : (s.data.toList.take (k + 1)).all (fun c => LM.nmb c.toNat) = true := by
  rw [FM.take_snoc s k h, List.all_append, H]; simp [hd]
theorem all_stop {s : ByteArray} {k : Nat} (h : k < s.size) (hd : LM.nmb (s[k].toNat : Int) = false) : s.data.toList.all (fun c => LM.nmb c.toNat) = false := by
  rw [List.all_eq_false]
  exact ⟨s[k], Array.mem_toList_iff.2 (Array.getElem_mem (xs := s.data) h), by simp [hd]⟩
theorem all_end {s : ByteArray} {k : Nat} (h : s.size ≤ k) (H : (s.data.toList.take k).all (fun c => LM.nmb c.toNat) = true) : s.data.toList.all (fun c => LM.nmb c.toNat) = true := by
  rwa [List.take_of_length_le (by rw [size_len]; exact h)] at H

theorem sym_short {s : ByteArray} (h : s.size < 1 ∨ 60 < s.size ∨ s.data.toList = [46]) : LM.sym s.data.toList = false := by
  unfold LM.sym
  rw [size_len, decide_eq_false, Bool.false_and]
  rintro ⟨h1, h2, h3⟩
  rcases h with h | h | h
  · omega
  · omega
  · exact h3 h
theorem sym_of {s : ByteArray} (h1 : 1 ≤ s.size) (h2 : s.size ≤ 60) (h3 : s.data.toList ≠ [46]) : LM.sym s.data.toList = (s.data.toList.all (fun c => LM.nmb c.toNat) && !FM.okd (FM.body s.data.toList)) := by
  unfold LM.sym
  rw [size_len, decide_eq_true ⟨h1, h2, h3⟩, Bool.true_and]

theorem Symbol_any (s : ByteArray) (hs : s.size ≤ 9223372036854775807) (w : World) :
    Calls Tryz.prog 71 #[.string s] w fun e w' => e = .returned (.bool (LM.sym s.data.toList)) ∧ w = w' := by
  by_cases h1 : 1 ≤ s.size
  · obtain ⟨e1, e3⟩ := empty_no h1
    by_cases h2 : 60 < s.size
    · rw [sym_short (.inr (.inl h2))]
      go_enter Tryz.func71, Tryz.ntmps71
      go_wp2
      go_ret
      exact ⟨rfl, rfl⟩
    · by_cases h3 : s.data.toList = [46]
      · rw [sym_short (.inr (.inr h3))]
        obtain rfl := lst_yes h3
        clear h1 h2 h3 e1 e3 hs
        go_enter Tryz.func71, Tryz.ntmps71
        go_wp2
        go_ret
        exact ⟨rfl, rfl⟩
      · rw [sym_of h1 (by omega) h3]
        have f3 := lst_no (s := s) (l := [46]) h3
        clear h3
        have hp := parse_any s hs
        go_enter Tryz.func71, Tryz.ntmps71
        go_wp2
        go_loop [19] (fun i => ∃ k : Nat, k ≤ s.size ∧ i = .int .i64 k ∧ Hid ((s.data.toList.take k).all (fun c => LM.nmb c.toNat) = true)) (fun i => s.size - (intOf i).toNat)
        case atStart => exact ⟨0, Nat.zero_le _, rfl, by simp [Hid]⟩
        case round =>
          obtain ⟨k, hk, rfl, hd⟩ := hrel
          by_cases hlt : k < s.size
          · cases hq : LM.nmb (s[k].toNat : Int)
            · have hn := Lib.hid (all_stop hlt hq)
              have hq' := Lib.hid hq
              clear hq hp
              go_wp2_with (go_at_call 84; refine (isNameByte_any _ _).mono ?_; rintro e w' ⟨rfl, rfl⟩; rw [hq'.out])
              go_ret
              exact ⟨ret_b (by rw [hn.out]; rfl), rfl⟩
            · have hn := Lib.hid (all_go hlt hd.out hq)
              have hq' := Lib.hid hq
              clear hq hp
              go_wp2_with (go_at_call 84; refine (isNameByte_any _ _).mono ?_; rintro e w' ⟨rfl, rfl⟩; rw [hq'.out])
              go_round
              case rel => exact ⟨k + 1, by omega, by go_num, hn⟩
              case measure => simp [intOf]; omega
          · have hn := Lib.hid (all_end (by omega) hd.out)
            rcases parse_kind s.data.toList with ⟨ho, he⟩ | ⟨ho, ⟨n, he⟩ | he⟩
            · rw [he, ans_no _ _ (by omega)] at hp
              have hp' := Lib.hid hp
              have ho' := Lib.hid ho
              clear hp he ho
              go_wp2_with (first
                | (go_at_call 85; refine (hp'.out _).mono ?_; rintro e w' ⟨rfl, rfl⟩)
                | (go_at_call 12; refine (is_same _ _).mono ?_; rintro e w' ⟨rfl, rfl⟩))
              go_ret
              exact ⟨ret_b (by rw [hn.out, ho'.out]; rfl), rfl⟩
            · rw [he, ans_yes] at hp
              have hp' := Lib.hid hp
              have ho' := Lib.hid ho
              clear hp he ho
              go_wp2_with (first
                | (go_at_call 85; refine (hp'.out _).mono ?_; rintro e w' ⟨rfl, rfl⟩)
                | (go_at_call 12; refine (is_nil _ _).mono ?_; rintro e w' ⟨rfl, rfl⟩))
              go_ret
              exact ⟨ret_b (by rw [hn.out, ho'.out]; rfl), rfl⟩
            · rw [he, ans_no _ _ (by omega)] at hp
              have hp' := Lib.hid hp
              have ho' := Lib.hid ho
              clear hp he ho
              go_wp2_with (first
                | (go_at_call 85; refine (hp'.out _).mono ?_; rintro e w' ⟨rfl, rfl⟩)
                | (go_at_call 12; refine (is_other _ _ (by rfl) _).mono ?_; rintro e w' ⟨rfl, rfl⟩))
              go_ret
              exact ⟨ret_b (by rw [hn.out, ho'.out]; rfl), rfl⟩
  · obtain ⟨e1, e3, e4⟩ := empty_yes (s := s) (by omega)
    rw [sym_short (.inl (by omega))]
    clear e4
    go_enter Tryz.func71, Tryz.ntmps71
    go_wp2
    go_ret
    exact ⟨rfl, rfl⟩

theorem bcell {W w1 : World} (hb : Below W.heap.size W w1) : (∀ b o, b < W.heap.size → w1.cell? ⟨b, o, none⟩ = W.cell? ⟨b, o, none⟩) ∧ (∀ b o, b < W.heap.size → w1.frozen? ⟨b, o, none⟩ = W.frozen? ⟨b, o, none⟩) :=
  ⟨fun b o h => hb.cell (p := ⟨b, o, none⟩) h, fun b o h => hb.frozen (p := ⟨b, o, none⟩) h⟩

theorem below_new {w w1 : World} {o : Obj} (hb : Below (w.alloc o).heap.size (w.alloc o) w1) : Below w.heap.size w w1 :=
  ((Below.refl _ w).alloc (Nat.le_refl _) o).trans (hb.mono (by simp))
/-- six cells of a new block -/
theorem below_six {B g : Nat} {a w : World} (h : Below B a w) (hg : B ≤ g) (v0 v1 v2 v3 v4 v5 : Value) :
    Below B a ((((((w.setCell ⟨g, 0, none⟩ v0).setCell ⟨g, 1, none⟩ v1).setCell ⟨g, 2, none⟩ v2).setCell ⟨g, 3, none⟩ v3).setCell ⟨g, 4, none⟩ v4).setCell ⟨g, 5, none⟩ v5) :=
  (((((h.setCell hg v0).setCell hg v1).setCell hg v2).setCell hg v3).setCell hg v4).setCell hg v5

theorem word_dot (w : World) :
    Calls Tryz.prog 99 #[.string ⟨#[46]⟩] w fun e w' => e = .returned (tka (LM.tok 8 0 [] 1)) ∧ Went w w' := by
  go_enter Tryz.func99, Tryz.ntmps99
  go_wp2_with (go_at_call 96; refine (mark_any _ _ _).mono ?_; rintro e w1 ⟨rfl, hb⟩; obtain ⟨hc, hf⟩ := bcell hb)
  exact bodyPost_ret (v := .tuple #[.agg #[.int .i64 8, .int .i64 0, .string ⟨#[]⟩, .int .i64 0, .int .i64 0, .int .i64 1], .nilIface]) (by simp [results, Tryz.results99, go_sem, hc]) rfl ⟨rfl, below_six (below_new hb) (Nat.le_refl _) _ _ _ _ _ _⟩
theorem word_flag (b : UInt8) (x : Int) (h : b = 102 ∧ x = 0 ∨ b = 116 ∧ x = 1) (w : World) :
    Calls Tryz.prog 99 #[.string ⟨#[35, b]⟩] w fun e w' => e = .returned (tka (LM.tok 10 x [] 2)) ∧ Went w w' := by
  rcases h with ⟨rfl, rfl⟩ | ⟨rfl, rfl⟩
  · go_enter Tryz.func99, Tryz.ntmps99
    go_wp2
    exact bodyPost_ret (v := .tuple #[.agg #[.int .i64 10, .int .i64 0, .string ⟨#[]⟩, .int .i64 0, .int .i64 0, .int .i64 2], .nilIface]) (by simp [results, Tryz.results99, go_sem]) rfl ⟨rfl, (Below.refl _ _).alloc (Nat.le_refl _) _⟩
  · go_enter Tryz.func99, Tryz.ntmps99
    go_wp2
    exact bodyPost_ret (v := .tuple #[.agg #[.int .i64 10, .int .i64 1, .string ⟨#[]⟩, .int .i64 0, .int .i64 0, .int .i64 2], .nilIface]) (by simp [results, Tryz.results99, go_sem]) rfl ⟨rfl, (Below.refl _ _).alloc (Nat.le_refl _) _⟩

theorem tka_ret {T U : LM.Tk} (h : T = U) {v : Value} (hv : v = tka T) : Ending.returned v = .returned (tka U) := by rw [hv, h]
theorem word_any (s : ByteArray) (hs : s.size ≤ 281474976710656) (w : World) :
    Calls Tryz.prog 99 #[.string s] w fun e w' => e = .returned (tka (LM.wrd s.data.toList)) ∧ Went w w' := by
  by_cases h1 : s.data.toList = [46]
  · have e : LM.wrd s.data.toList = LM.tok 8 0 [] 1 := by rw [h1]; rfl
    rw [e]
    obtain rfl := lst_yes h1
    exact word_dot w
  by_cases h2 : s.data.toList = [35, 102]
  · have e : LM.wrd s.data.toList = LM.tok 10 0 [] 2 := by rw [h2]; rfl
    rw [e]
    obtain rfl := lst_yes h2
    exact word_flag 102 0 (.inl ⟨rfl, rfl⟩) w
  by_cases h3 : s.data.toList = [35, 116]
  · have e : LM.wrd s.data.toList = LM.tok 10 1 [] 2 := by rw [h3]; rfl
    rw [e]
    obtain rfl := lst_yes h3
    exact word_flag 116 1 (.inr ⟨rfl, rfl⟩) w
  have hw : LM.wrd s.data.toList = if FM.okd (FM.body s.data.toList) then (if (FM.parse s.data.toList).2 = 0 then LM.tok 9 (FM.parse s.data.toList).1 [] s.size else LM.bad 11) else if LM.sym s.data.toList then LM.tok 13 0 s.data.toList s.size else LM.bad 6 := by
    unfold LM.wrd; rw [if_neg h1, if_neg h2, if_neg h3, size_len]
  have f1 := lst_no h1
  have f2 := lst_no h2
  have f3 := lst_no h3
  clear h1 h2 h3
  have hp := parse_any s (by omega)
  rcases parse_kind s.data.toList with ⟨ho, he⟩ | ⟨ho, ⟨n, he⟩ | he⟩
  · rw [ho, if_neg (by simp)] at hw
    rw [he, ans_no _ _ (by omega)] at hp
    have hp' := Lib.hid hp
    clear hp he ho
    have hy := Symbol_any s (by omega)
    cases hs : LM.sym s.data.toList
    · rw [hs] at hy hw
      rw [if_neg (by simp)] at hw
      have hw' := Lib.hid hw
      have hy' := Lib.hid hy
      clear hw hy hs
      go_enter Tryz.func99, Tryz.ntmps99
      go_wp2_with (first
        | (go_at_call 85; refine (hp'.out _).mono ?_; rintro e w' ⟨rfl, rfl⟩)
        | (go_at_call 71; refine (hy'.out _).mono ?_; rintro e w' ⟨rfl, rfl⟩)
        | (go_at_call 12; refine (is_same _ _).mono ?_; rintro e w' ⟨rfl, rfl⟩))
      exact bodyPost_ret (v := .tuple #[.agg #[.int .i64 0, .int .i64 0, .string ⟨#[]⟩, .int .i64 0, .int .i64 0, .int .i64 0], .iface 47 (.int .i64 6)]) (by simp [results, Tryz.results99, go_sem]) rfl ⟨tka_ret hw'.out.symm rfl, (Below.refl _ _).alloc (Nat.le_refl _) _⟩
    · rw [hs] at hy hw
      rw [if_pos rfl] at hw
      have hw' := Lib.hid hw
      have hy' := Lib.hid hy
      clear hw hy hs
      go_enter Tryz.func99, Tryz.ntmps99
      go_wp2_with (first
        | (go_at_call 85; refine (hp'.out _).mono ?_; rintro e w' ⟨rfl, rfl⟩)
        | (go_at_call 71; refine (hy'.out _).mono ?_; rintro e w' ⟨rfl, rfl⟩)
        | (go_at_call 106; refine (stringsClone_any _ (by assumption) _).mono ?_; rintro e w1 ⟨rfl, hb⟩; obtain ⟨hc, hf⟩ := bcell hb)
        | (go_at_call 12; refine (is_same _ _).mono ?_; rintro e w' ⟨rfl, rfl⟩))
      exact bodyPost_ret (v := .tuple #[.agg #[.int .i64 13, .int .i64 0, .string s, .int .i64 0, .int .i64 0, .int .i64 s.size], .nilIface]) (by simp [results, Tryz.results99, go_sem, hc]) rfl ⟨tka_ret hw'.out.symm rfl, below_six (below_new hb) (Nat.le_refl _) _ _ _ _ _ _⟩
  · rw [ho, if_pos rfl, he, if_pos rfl] at hw
    rw [he, ans_yes] at hp
    have hp' := Lib.hid hp
    have hw' := Lib.hid hw
    clear hp he ho hw
    go_enter Tryz.func99, Tryz.ntmps99
    go_wp2_with (go_at_call 85; refine (hp'.out _).mono ?_; rintro e w' ⟨rfl, rfl⟩)
    exact bodyPost_ret (v := .tuple #[.agg #[.int .i64 9, .int .i64 n, .string ⟨#[]⟩, .int .i64 0, .int .i64 0, .int .i64 s.size], .nilIface]) (by simp [results, Tryz.results99, go_sem]) rfl ⟨tka_ret hw'.out.symm rfl, (Below.refl _ _).alloc (Nat.le_refl _) _⟩
  · rw [ho, if_pos rfl, he, if_neg (by simp)] at hw
    rw [he, ans_no _ _ (by omega)] at hp
    have hp' := Lib.hid hp
    have hw' := Lib.hid hw
    clear hp he ho hw
    go_enter Tryz.func99, Tryz.ntmps99
    go_wp2_with (first
      | (go_at_call 85; refine (hp'.out _).mono ?_; rintro e w' ⟨rfl, rfl⟩)
      | (go_at_call 12; refine (is_other _ _ (by rfl) _).mono ?_; rintro e w' ⟨rfl, rfl⟩))
    exact bodyPost_ret (v := .tuple #[.agg #[.int .i64 0, .int .i64 0, .string ⟨#[]⟩, .int .i64 0, .int .i64 0, .int .i64 0], .iface 47 (.int .i64 11)]) (by simp [results, Tryz.results99, go_sem]) rfl ⟨tka_ret hw'.out.symm rfl, (Below.refl _ _).alloc (Nat.le_refl _) _⟩
end Go.Proofs.YtbomodendobnkaaGreat

/- What package lex gives of a character, a string, and what stands anywhere. -/
namespace Go.Proofs.YtbomodendobnkaaGreat
open Go.ChangeShapes Go.WideShapes Go.ChangeAt Go.RowKit

theorem extract_drop (s : ByteArray) (k : Nat) : (s.extract k s.size).data.toList = s.data.toList.drop k := Lib.extract_to_end s k
theorem extract_take (s : ByteArray) (k : Nat) : (s.extract 0 k).data.toList = s.data.toList.take k := by simp
theorem chr_cons {s t : ByteArray} {q : Nat} (ht : t.data.toList = s.data.toList.drop 2) (h0 : 1 ≤ t.size) (hq : LM.wln (t.extract 1 t.size).data.toList = q) :
    1 + q ≤ t.size ∧ LM.chr (s.data.toList.drop 2) = if LM.cho (t.extract 0 (1 + q)).data.toList = -1 then LM.bad 6 else LM.tok 11 (LM.cho (t.extract 0 (1 + q)).data.toList) [] (3 + q) := by
  rw [extract_drop] at hq
  have hl := LM.wln_le (t.data.toList.drop 1)
  rw [hq, List.length_drop, size_len] at hl
  refine ⟨by omega, ?_⟩
  rw [extract_take, ← ht, cons_of (s := t) (by omega), LM.chr, hq]
  rw [Nat.add_comm 1 q, List.take_succ_cons]

theorem char_any (s : ByteArray) (h2 : 2 ≤ s.size) (hs : s.size ≤ 281474976710656) (w : World) :
    Calls Tryz.prog 97 #[.string s] w fun e w' => e = .returned (tka (LM.chr (s.data.toList.drop 2))) ∧ Went w w' := by
  obtain ⟨t, ht⟩ : ∃ t, s.extract 2 s.size = t := ⟨_, rfl⟩
  have hd : t.data.toList = s.data.toList.drop 2 := by rw [← ht, extract_drop]
  have hz : t.size + 2 = s.size := by have := size_len t; rw [hd, List.length_drop, size_len] at this; omega
  by_cases h0 : 1 ≤ t.size
  · obtain ⟨e1, e3⟩ := empty_no h0
    obtain ⟨q, hq⟩ : ∃ q, LM.wln (t.extract 1 t.size).data.toList = q := ⟨_, rfl⟩
    obtain ⟨hq1, hc⟩ := chr_cons hd h0 hq
    rw [hc]
    have hwe := wordEnd_any (t.extract 1 t.size) (by simp; omega)
    rw [hq] at hwe
    have hco := charOf_any (t.extract 0 (1 + q)) (by simp; omega) (by simp; omega)
    have hsz : (t.extract 0 (1 + q)).size = 1 + q := by simp; omega
    clear hc hq hd
    generalize LM.cho (t.extract 0 (1 + q)).data.toList = c at *
    by_cases hc : c = -1
    · subst hc
      rw [if_pos rfl]
      have hco' := Lib.hid hco
      have hwe' := Lib.hid hwe
      clear hco hwe hsz
      go_enter Tryz.func97, Tryz.ntmps97
      go_wp2_with (first
        | (go_at_call 100; refine (hwe'.out _).mono ?_; rintro e w' ⟨rfl, rfl⟩)
        | (go_at_call 103; refine (hco'.out _).mono ?_; rintro e w' ⟨rfl, rfl⟩; unfold cov; rw [if_pos rfl]))
      exact bodyPost_ret (v := .tuple #[.agg #[.int .i64 0, .int .i64 0, .string ⟨#[]⟩, .int .i64 0, .int .i64 0, .int .i64 0], .iface 47 (.int .i64 6)]) (by simp [results, Tryz.results97, go_sem]) rfl ⟨rfl, (Below.refl _ _).alloc (Nat.le_refl _) _⟩
    · rw [if_neg hc]
      have hcv : cov c = .tuple #[.int .i64 c, .bool true] := by unfold cov; rw [if_neg hc]
      rw [hcv] at hco
      have hco' := Lib.hid hco
      have hwe' := Lib.hid hwe
      clear hco hwe hcv hc
      go_enter Tryz.func97, Tryz.ntmps97
      go_wp2_with (first
        | (go_at_call 100; refine (hwe'.out _).mono ?_; rintro e w' ⟨rfl, rfl⟩)
        | (go_at_call 103; refine (hco'.out _).mono ?_; rintro e w' ⟨rfl, rfl⟩))
      refine bodyPost_ret (v := .tuple #[.agg #[.int .i64 11, .int .i64 c, .string ⟨#[]⟩, .int .i64 0, .int .i64 0, .int .i64 (3 + q : Nat)], .nilIface]) (by simp [results, Tryz.results97, go_sem]; omega) rfl ⟨rfl, (Below.refl _ _).alloc (Nat.le_refl _) _⟩
  · obtain ⟨e1, e3, e4⟩ := empty_yes (s := t) (by omega)
    have hc : LM.chr (s.data.toList.drop 2) = LM.bad 6 := by rw [← hd, e4]; rfl
    rw [hc]
    clear hc hd e4
    go_enter Tryz.func97, Tryz.ntmps97
    go_wp2
    exact bodyPost_ret (v := .tuple #[.agg #[.int .i64 0, .int .i64 0, .string ⟨#[]⟩, .int .i64 0, .int .i64 0, .int .i64 0], .iface 47 (.int .i64 6)]) (by simp [results, Tryz.results97, go_sem]) rfl ⟨rfl, (Below.refl _ _).alloc (Nat.le_refl _) _⟩
end Go.Proofs.YtbomodendobnkaaGreat
