/- The laws of layer 2 on signs, the modulo, and texts, walked. -/
import Derived.Test.YtjlijpdnefficaaDoorFixLawsB
import Derived.Test.YtjlijpdnefficaaDoorFixRefC
namespace Go.Proofs.YtjlijpdnefficaaDoor
open Go.ChangeShapes Go.WideShapes Go.ChangeAt Go.RowKit

set_option maxHeartbeats 1000000 in
theorem fixSigns_walk (a b : Int) (w : World) (ht : Tab w) :
    Calls Tryd.prog 9 #[.int .i64 a, .int .i64 b] w fun e w' => e = .returned (.bool true) ∧ Went w w' := by
  by_cases hk : (FM.sub a b).2 = 0
  · by_cases hj : (FM.sub b a).2 = 0
    · obtain ⟨ha, hb, hs, es⟩ := sub_ok hk
      obtain ⟨_, _, ht', et⟩ := sub_ok hj
      have n0 : FM.num 0 = true := by kernel_rfl
      have n1 : FM.num 1 = true := by kernel_rfl
      have c1 := sub_any a b
      have c2 := sub_any b a
      have c3 := add_any (a - b) (b - a)
      have c4 := mul_any a 1
      have c5 := add_any a 0
      rw [es, ans_yes] at c1
      rw [et, ans_yes] at c2
      rw [FM.add, both_yes hs ht', show a - b + (b - a) = 0 by omega, FM.bd, n0, if_pos rfl, ans_yes] at c3
      rw [FM.mul, both_yes ha n1, Int.mul_one, FM.bd, ha, if_pos rfl, ans_yes] at c4
      rw [FM.add, both_yes ha n0, Int.add_zero, FM.bd, ha, if_pos rfl, ans_yes] at c5
      have d1 := Lib.hid c1
      have d2 := Lib.hid c2
      have d3 := Lib.hid c3
      have d4 := Lib.hid c4
      have d5 := Lib.hid c5
      have t0 : (a == a) = true := by simp
      clear c1 c2 c3 c4 c5 ha hb hs es ht' et n0 n1 hk hj
      go_enter Tryd.func9, Tryd.ntmps9
      go_wp2_with (first
        | (go_at_call 14; (with_reducible refine (d1.out _).mono ?_); rintro e w' ⟨rfl, rfl⟩)
        | (go_at_call 14; (with_reducible refine (d2.out _).mono ?_); rintro e w' ⟨rfl, rfl⟩)
        | (go_at_call 12; (with_reducible refine (d3.out _).mono ?_); rintro e w' ⟨rfl, rfl⟩)
        | (go_at_call 16; (with_reducible refine (d4.out _).mono ?_); rintro e w' ⟨rfl, rfl⟩)
        | (go_at_call 12; (with_reducible refine (d5.out _).mono ?_); rintro e w' ⟨rfl, rfl⟩)
        | (go_at_call 18; (with_reducible refine (awake_any _ ht).mono ?_); rintro e w1 ⟨rfl, hw⟩))
      go_ret
      exact ⟨rfl, hw⟩
    · obtain ⟨ha, hb, hs, es⟩ := sub_ok hk
      have he := er_no hj
      have c1 := sub_any a b
      rw [es, ans_yes] at c1
      have d1 := Lib.hid c1
      have d2 := Lib.hid (sub_any b a)
      clear c1 ha hb hs es hk hj
      unfold ans at d2
      rw [he] at d2
      clear he
      go_enter Tryd.func9, Tryd.ntmps9
      go_wp2_with (first
        | (go_at_call 14; (with_reducible refine (d1.out _).mono ?_); rintro e w' ⟨rfl, rfl⟩)
        | (go_at_call 14; (with_reducible refine (d2.out _).mono ?_); rintro e w' ⟨rfl, rfl⟩)
        | (go_at_call 18; (with_reducible refine (awake_any _ ht).mono ?_); rintro e w1 ⟨rfl, hw⟩)
        | (go_at_call 18; (with_reducible refine (awake_any _ (ht.on hw)).mono ?_); rintro e w2 ⟨rfl, hw2⟩))
      go_ret
      exact ⟨rfl, hw.trans hw2⟩
  · have he := er_no hk
    have d1 := Lib.hid (sub_any a b)
    have d2 := Lib.hid (sub_any b a)
    unfold ans at d1 d2
    rw [he] at d1
    clear he hk
    go_enter Tryd.func9, Tryd.ntmps9
    go_wp2_with (first
      | (go_at_call 14; (with_reducible refine (d1.out _).mono ?_); rintro e w' ⟨rfl, rfl⟩)
      | (go_at_call 14; (with_reducible refine (d2.out _).mono ?_); rintro e w' ⟨rfl, rfl⟩)
      | (go_at_call 18; (with_reducible refine (awake_any _ ht).mono ?_); rintro e w1 ⟨rfl, hw⟩)
      | (go_at_call 18; (with_reducible refine (awake_any _ (ht.on hw)).mono ?_); rintro e w2 ⟨rfl, hw2⟩))
    go_ret
    exact ⟨rfl, hw.trans hw2⟩

/-- the modulo and the remainder: refused alike, or the one the other, or the divisor more -/
theorem mod_rem (a b : Int) : (∃ k, k ≠ 0 ∧ FM.mod a b = (0, k) ∧ FM.rem a b = (0, k))
    ∨ (∃ r, FM.rem a b = (r, 0) ∧ FM.mod a b = (r, 0))
    ∨ (∃ r, FM.rem a b = (r, 0) ∧ FM.mod a b = (r + b, 0) ∧ b ≠ 0 ∧ -1152921504606846976 ≤ r ∧ r ≤ 1152921504606846976 ∧ -1152921504606846976 ≤ b ∧ b ≤ 1152921504606846975) := by
  cases ha : FM.num a
  · exact .inl ⟨2, by omega, by rw [FM.mod, both_no (.inl ha)], by rw [FM.rem, both_no (.inl ha)]⟩
  · cases hb : FM.num b
    · exact .inl ⟨2, by omega, by rw [FM.mod, both_no (.inr hb)], by rw [FM.rem, both_no (.inr hb)]⟩
    · by_cases h0 : b = 0
      · exact .inl ⟨12, by omega, by rw [FM.mod, both_yes ha hb, if_pos h0], by rw [FM.rem, both_yes ha hb, if_pos h0]⟩
      · have h2 := FM.num_yes hb
        have t := FM.tmod_bd a b h0
        rcases FM.md_or a b with e | e
        · exact .inr (.inl ⟨a.tmod b, by rw [FM.rem, both_yes ha hb, if_neg h0], by rw [FM.mod, both_yes ha hb, if_neg h0, e]⟩)
        · exact .inr (.inr ⟨a.tmod b, by rw [FM.rem, both_yes ha hb, if_neg h0], by rw [FM.mod, both_yes ha hb, if_neg h0, e], h0, by omega, by omega, by omega, by omega⟩)

set_option maxHeartbeats 1000000 in
theorem fixModulo_walk (a b : Int) (w : World) (ht : Tab w) :
    Calls Tryd.prog 10 #[.int .i64 a, .int .i64 b] w fun e w' => e = .returned (.bool true) ∧ Went w w' := by
  have c1 := mod_any a b
  have c2 := rem_any a b
  rcases mod_rem a b with ⟨k, hk, em, er⟩ | ⟨r, er, em⟩ | ⟨r, er, em, h0, r1, r2, b1, b2⟩
  · rw [em, ans_no _ _ hk] at c1
    rw [er, ans_no _ _ hk] at c2
    have d1 := Lib.hid c1
    have d2 := Lib.hid c2
    clear c1 c2 em er hk
    go_enter Tryd.func10, Tryd.ntmps10
    go_wp2_with (first
      | (go_at_call 24; (with_reducible refine (d1.out _).mono ?_); rintro e w' ⟨rfl, rfl⟩)
      | (go_at_call 22; (with_reducible refine (d2.out _).mono ?_); rintro e w' ⟨rfl, rfl⟩))
    go_region_held3 (fun w' => Tab w' ∧ True) (first | exact ⟨ht, trivial⟩ | exact ⟨Tab.on (show Tab w.drew from ht) hw, trivial⟩) ((go_at_call 18; refine (awake_any _ (show Tab w.drew from ht)).mono ?_; rintro e w1 ⟨rfl, hw⟩))
    go_wp2
    go_ret
    exact ⟨rfl, hw.of_drew⟩
  · rw [em, ans_yes] at c1
    rw [er, ans_yes] at c2
    have d1 := Lib.hid c1
    have d2 := Lib.hid c2
    have t0 : (r == r) = true := by simp
    clear c1 c2 em er
    go_enter Tryd.func10, Tryd.ntmps10
    go_wp2_with (first
      | (go_at_call 24; (with_reducible refine (d1.out _).mono ?_); rintro e w' ⟨rfl, rfl⟩)
      | (go_at_call 22; (with_reducible refine (d2.out _).mono ?_); rintro e w' ⟨rfl, rfl⟩))
    go_region_held3 (fun w' => Tab w' ∧ True) (first | exact ⟨ht, trivial⟩ | exact ⟨Tab.on (show Tab w.drew from ht) hw, trivial⟩) ((go_at_call 18; refine (awake_any _ (show Tab w.drew from ht)).mono ?_; rintro e w1 ⟨rfl, hw⟩))
    go_wp2
    go_ret
    exact ⟨rfl, hw.of_drew⟩
  · rw [em, ans_yes] at c1
    rw [er, ans_yes] at c2
    have d1 := Lib.hid c1
    have d2 := Lib.hid c2
    have t0 : (r + b == r) = false := by simp; omega
    have t1 : (r + b == r + b) = true := by simp
    clear c1 c2 em er h0
    go_enter Tryd.func10, Tryd.ntmps10
    go_wp2_with (first
      | (go_at_call 24; (with_reducible refine (d1.out _).mono ?_); rintro e w' ⟨rfl, rfl⟩)
      | (go_at_call 22; (with_reducible refine (d2.out _).mono ?_); rintro e w' ⟨rfl, rfl⟩))
    go_region_held3 (fun w' => Tab w' ∧ True) (first | exact ⟨ht, trivial⟩ | exact ⟨Tab.on (show Tab w.drew from ht) hw, trivial⟩) ((go_at_call 18; refine (awake_any _ (show Tab w.drew from ht)).mono ?_; rintro e w1 ⟨rfl, hw⟩))
    go_wp2
    go_ret
    exact ⟨rfl, hw.of_drew⟩

set_option maxHeartbeats 1000000 in
theorem fixParses_walk (s : ByteArray) (hs : s.size ≤ 9223372036854775807) (w : World) (ht : Tab w) :
    Calls Tryd.prog 8 #[.string s] w fun e w' => e = .returned (.bool true) ∧ Went w w' := by
  go_enter Tryd.func8, Tryd.ntmps8
  go_wp2_with (first
    | (go_at_call 27; (with_reducible refine (parse_any _ hs _).mono ?_); rintro e w' ⟨rfl, rfl⟩; unfold ans)
    | (go_at_call 31; (with_reducible refine (rparse_any _ hs _).mono ?_); rintro e w' ⟨rfl, rfl⟩; unfold two)
    | (go_at_call 18; (with_reducible refine (awake_any _ ht).mono ?_); rintro e w1 ⟨rfl, hw⟩)
    | (go_at_call 19; (with_reducible refine (says_any _ (fair_parse _) _).mono ?_); rintro e w' ⟨rfl, rfl⟩))
  go_ret
  exact ⟨rfl, hw⟩

/-- a numeral is parsed as its number -/
theorem parse_itoa (n : Int) (h0 : -9223372036854775808 ≤ n) (h1 : n ≤ 9223372036854775807) : FM.parse (Lib.itoa n) = FM.bd n := by
  by_cases hn : n < 0
  · have d := FM.dec_digs n.natAbs
    have l := FM.dec_len n.natAbs (by omega)
    rw [Lib.itoa, if_pos hn]
    have eb : FM.body (45 :: Lib.decDigits n.natAbs) = Lib.decDigits n.natAbs := by simp [FM.body]
    have en : FM.neg (45 :: Lib.decDigits n.natAbs) = true := rfl
    rw [FM.parse, FM.sv, eb, en, if_pos rfl, d.2, FM.okd, d.1, decide_eq_true (by omega), Bool.true_and, if_pos rfl, show -(n.natAbs : Int) = n by omega]
  · have d := FM.dec_digs n.toNat
    have l := FM.dec_len n.toNat (by omega)
    rw [Lib.itoa, if_neg hn]
    obtain ⟨eb, en⟩ := FM.body_plain d.1
    rw [FM.parse, FM.sv, eb, en, FM.okd, d.1, decide_eq_true (by omega), Bool.true_and, if_pos rfl, if_neg (by simp), d.2, show (n.toNat : Int) = n by omega]
theorem itoa_size (n : Int) (h0 : -9223372036854775808 ≤ n) (h1 : n ≤ 9223372036854775807) : (ByteArray.mk (Lib.itoa n).toArray).size ≤ 9223372036854775807 := by
  have := Lib.itoa_length_le n h0 h1
  show (Lib.itoa n).toArray.size ≤ _
  rw [List.size_toArray]; omega

set_option maxHeartbeats 1000000 in
theorem fixTexts_walk (n : Int) (h0 : -9223372036854775808 ≤ n) (h1 : n ≤ 9223372036854775807) (w : World) (ht : Tab w) :
    Calls Tryd.prog 7 #[.int .i64 n] w fun e w' => e = .returned (.bool true) ∧ Went w w' := by
  have cp := parse_any ⟨(Lib.itoa n).toArray⟩ (itoa_size n h0 h1)
  have ep : FM.parse (ByteArray.mk (Lib.itoa n).toArray).data.toList = FM.bd n := by rw [← parse_itoa n h0 h1]
  rw [ep, FM.bd] at cp
  have ct := text_any n h0 h1
  have cr := rtext_any n h0 h1
  generalize (ByteArray.mk (Lib.itoa n).toArray) = t at *
  have dt := Lib.hid ct
  have dr := Lib.hid cr
  clear ct cr ep
  have t1 : (t.toList == t.toList) = true := by simp
  have t2 : (t.toList != t.toList) = false := by simp
  cases hn : FM.num n
  · rw [hn, if_neg (by simp), ans_no _ _ (by omega)] at cp
    have dp := Lib.hid cp
    clear cp
    go_enter Tryd.func7, Tryd.ntmps7
    go_wp2_with (first
      | (go_at_call 26; (with_reducible refine (dt.out _ ht).mono ?_); rintro e w1 ⟨rfl, hw1⟩)
      | (go_at_call 27; (with_reducible refine (dp.out _).mono ?_); rintro e w' ⟨rfl, rfl⟩)
      | (go_at_call 18; (with_reducible refine (awake_any _ (ht.on hw1)).mono ?_); rintro e w2 ⟨rfl, hw2⟩)
      | (go_at_call 28; (with_reducible refine (dr.out _).mono ?_); rintro e w3 ⟨rfl, hw3⟩)
      | (go_at_call 29; (with_reducible refine (rnum_any _ _).mono ?_); rintro e w' ⟨rfl, rfl⟩)
      | (go_at_call 30; (with_reducible refine (is_same _ _).mono ?_); rintro e w' ⟨rfl, rfl⟩))
    go_ret
    exact ⟨rfl, hw1.trans (hw2.trans hw3)⟩
  · rw [hn, if_pos rfl, ans_yes] at cp
    have dp := Lib.hid cp
    clear cp
    have t3 : (n == n) = true := by simp
    go_enter Tryd.func7, Tryd.ntmps7
    go_wp2_with (first
      | (go_at_call 26; (with_reducible refine (dt.out _ ht).mono ?_); rintro e w1 ⟨rfl, hw1⟩)
      | (go_at_call 27; (with_reducible refine (dp.out _).mono ?_); rintro e w' ⟨rfl, rfl⟩)
      | (go_at_call 18; (with_reducible refine (awake_any _ (ht.on hw1)).mono ?_); rintro e w2 ⟨rfl, hw2⟩)
      | (go_at_call 28; (with_reducible refine (dr.out _).mono ?_); rintro e w3 ⟨rfl, hw3⟩)
      | (go_at_call 29; (with_reducible refine (rnum_any _ _).mono ?_); rintro e w' ⟨rfl, rfl⟩))
    go_ret
    exact ⟨rfl, hw1.trans (hw2.trans hw3)⟩

/-! ### Noughts ahead -/
theorem val_nought (l : List UInt8) : FM.val (48 :: l) = FM.val l := by simp [FM.val]
theorem val_noughts (j : Nat) (l : List UInt8) : FM.val (List.replicate j 48 ++ l) = FM.val l := by
  induction j with
  | zero => rfl
  | succ j ih => rw [List.replicate_succ, List.cons_append, val_nought, ih]
theorem digs_noughts (j : Nat) (l : List UInt8) (h : FM.digs l = true) : FM.digs (List.replicate j 48 ++ l) = true := by
  induction j with
  | zero => exact h
  | succ j ih =>
    rw [List.replicate_succ, List.cons_append]
    simp only [FM.digs, List.all_cons, Bool.and_eq_true] at ih ⊢
    exact ⟨by decide, ih⟩
/-- j noughts ahead of u's numeral -/
def Noughts (u j : Nat) (t : ByteArray) : Prop := t.data.toList = List.replicate j 48 ++ Lib.decDigits u
theorem noughts_more {u j : Nat} {t : ByteArray} (h : Noughts u j t) : Noughts u (j + 1) (⟨#[48]⟩ ++ t) := by
  unfold Noughts at h ⊢
  rw [ByteArray.data_append, List.replicate_succ, List.cons_append, ← h]; simp
theorem noughts_size {u j : Nat} {t : ByteArray} (h : Noughts u j t) (hu : (u : Int) ≤ 1152921504606846975) : 1 ≤ t.size ∧ t.size ≤ j + 20 := by
  have l := FM.dec_len u (by omega)
  have : t.data.toList.length = t.size := by simp
  rw [h, List.length_append, List.length_replicate] at this
  omega
theorem noughts_digs {u j : Nat} {t : ByteArray} (h : Noughts u j t) : FM.digs t.data.toList = true := by
  rw [h]; exact digs_noughts _ _ (FM.dec_digs u).1
theorem plus_parse {u j : Nat} {t : ByteArray} (h : Noughts u j t) (hu : (u : Int) ≤ 1152921504606846975) (hj : j ≤ 8) :
    FM.parse (⟨#[43]⟩ ++ t : ByteArray).data.toList = ((u : Int), 0) := by
  have hs := noughts_size h hu
  have hd := noughts_digs h
  have e : (⟨#[43]⟩ ++ t : ByteArray).data.toList = 43 :: t.data.toList := by rw [ByteArray.data_append]; simp
  have eb : FM.body (43 :: t.data.toList) = t.data.toList := by simp [FM.body]
  have en : FM.neg (43 :: t.data.toList) = false := rfl
  have ev : FM.val t.data.toList = u := by rw [h, val_noughts, (FM.dec_digs u).2]
  have hl : t.data.toList.length = t.size := by simp
  rw [e, FM.parse, FM.sv, eb, en, FM.okd, hd, hl, decide_eq_true (by omega), Bool.true_and, if_pos rfl, if_neg (by simp), ev, FM.bd, FM.num_mk (by omega), if_pos rfl]
theorem end_parse {u j : Nat} {t : ByteArray} {c : UInt8} (h : Noughts u j t) (hu : (u : Int) ≤ 1152921504606846975) (hc : FM.dig c = false) :
    FM.parse (t ++ ByteArray.empty.push c).data.toList = (0, 6) := by
  have hs := noughts_size h hu
  have hd := noughts_digs h
  have e : (t ++ ByteArray.empty.push c).data.toList = t.data.toList ++ [c] := by rw [ByteArray.data_append]; simp [ByteArray.empty, ByteArray.emptyWithCapacity]; rfl
  have hl : t.data.toList.length = t.size := by simp
  rw [e]
  apply FM.parse_no
  cases ht : t.data.toList with
  | nil => rw [ht] at hl; simp at hl; omega
  | cons d r =>
    rw [ht] at hd
    simp only [FM.digs, List.all_cons, Bool.and_eq_true] at hd
    have hk := FM.dig_yes hd.1
    have h1 : d ≠ 45 := by rintro rfl; revert hk; decide
    have h2 : d ≠ 43 := by rintro rfl; revert hk; decide
    simp [FM.body, h1, h2, FM.okd, FM.digs, hc]
theorem dig_no {c : Int} (h0 : 0 ≤ c) (h1 : c ≤ 255) (h : c < 48 ∨ 57 < c) : FM.dig (UInt8.ofNat c.toNat) = false := by
  have e : (UInt8.ofNat c.toNat).toNat = c.toNat := by simp; omega
  unfold FM.dig; rw [e]; apply decide_eq_false; omega
theorem plus_size {t : ByteArray} (h : t.size ≤ 28) : (⟨#[43]⟩ ++ t : ByteArray).size ≤ 9223372036854775807 := by
  rw [ByteArray.size_append]; show 1 + t.size ≤ _; omega
theorem end_size {t : ByteArray} {c : UInt8} (h : t.size ≤ 28) : (t ++ ByteArray.empty.push c).size ≤ 9223372036854775807 := by
  rw [ByteArray.size_append]; show t.size + 1 ≤ _; omega

set_option maxHeartbeats 1000000 in
theorem fixNoughts_walk (n k c : Int) (h0 : -9223372036854775808 ≤ n) (h1 : n ≤ 9223372036854775807) (c0 : 0 ≤ c) (c1 : c ≤ 255) (w : World) (ht : Tab w) :
    Calls Tryd.prog 11 #[.int .i64 n, .int .i64 k, .int .u8 c] w fun e w' => e = .returned (.bool true) ∧ Went w w' := by
  have ct := text_any n h0 h1
  by_cases hok : 0 ≤ n ∧ n ≤ 1152921504606846975
  · obtain ⟨u, rfl⟩ : ∃ u : Nat, n = u := ⟨n.toNat, by omega⟩
    have ei : Noughts u 0 ⟨(Lib.itoa u).toArray⟩ := by unfold Noughts; rw [Lib.itoa_nonneg]; rfl
    have hn : FM.num u = true := FM.num_mk (by omega)
    have hu := hok.2
    clear h0 h1 hok
    generalize (ByteArray.mk (Lib.itoa u).toArray) = t at *
    have dt := Lib.hid ct
    clear ct
    have t3 : ((u : Int) == u) = true := by simp
    have hcv := conv_one
    obtain ⟨m, hm, hm8⟩ : ∃ m : Nat, wrap64 ((IntKind.u64.wrap k).tmod 9) = (m : Int) ∧ m ≤ 8 := by
      have e : (IntKind.u64.wrap k).tmod 9 = IntKind.u64.wrap k % 9 := Int.tmod_eq_emod_of_nonneg (by rw [IntKind.wrap_u64]; omega)
      refine ⟨(IntKind.u64.wrap k % 9).toNat, ?_, by omega⟩
      rw [e, FM.wrap_in _ (by omega) (by omega)]; omega
    go_enter Tryd.func11, Tryd.ntmps11
    go_wp2_with (first
      | (go_at_call 26; (with_reducible refine (dt.out _ ht).mono ?_); rintro e w1 ⟨rfl, hw1⟩)
      | (go_at_call 18; (with_reducible refine (awake_any _ (ht.on hw1)).mono ?_); rintro e w2 ⟨rfl, hw2⟩)
      | (go_at_call 29; (with_reducible refine (rnum_any _ _).mono ?_); rintro e w' ⟨rfl, rfl⟩))
    go_loop [8, 32] (fun s i => ∃ (j : Nat) (t' : ByteArray), j ≤ m ∧ i = .int .i64 j ∧ s = .string t' ∧ Noughts u j t') (fun _ i => m - (intOf i).toNat)
    case atStart => exact ⟨0, t, Nat.zero_le _, rfl, rfl, ei⟩
    case round =>
      obtain ⟨j, t', hj, rfl, rfl, H⟩ := hrel
      have hz := noughts_size H hu
      by_cases hlt : j < m
      · have hn' := noughts_more H
        go_wp2
        go_round
        case rel => exact ⟨j + 1, _, by omega, by go_num, rfl, hn'⟩
        case measure => simp [intOf]; omega
      · have cp := parse_any (⟨#[43]⟩ ++ t') (plus_size (by omega))
        rw [plus_parse H hu (by omega), ans_yes] at cp
        have dp := Lib.hid cp
        clear cp
        have ce := parse_any (t' ++ ByteArray.empty.push (UInt8.ofNat c.toNat)) (end_size (by omega))
        by_cases hc : 48 ≤ c ∧ c ≤ 57
        · have de := Lib.hid ce
          obtain ⟨hc1, hc2⟩ := hc
          clear ce
          unfold ans at de
          go_wp2_with (first
            | (go_at_call 27; (with_reducible refine (dp.out _).mono ?_); rintro e w' ⟨rfl, rfl⟩)
            | (go_at_call 27; (with_reducible refine (de.out _).mono ?_); rintro e w' ⟨rfl, rfl⟩))
          go_ret
          exact ⟨rfl, Below.alloc (hw1.trans hw2) (hw1.trans hw2).size _⟩
        · rw [end_parse H hu (dig_no c0 c1 (by omega)), ans_no _ _ (by omega)] at ce
          have de := Lib.hid ce
          clear ce
          rcases (by omega : c < 48 ∨ 57 < c) with hc3 | hc3
          all_goals
            clear hc
            go_wp2_with (first
              | (go_at_call 27; (with_reducible refine (dp.out _).mono ?_); rintro e w' ⟨rfl, rfl⟩)
              | (go_at_call 27; (with_reducible refine (de.out _).mono ?_); rintro e w' ⟨rfl, rfl⟩)
              | (go_at_call 30; (with_reducible refine (is_same _ _).mono ?_); rintro e w' ⟨rfl, rfl⟩))
            go_ret
            exact ⟨rfl, Below.alloc (hw1.trans hw2) (hw1.trans hw2).size _⟩
  · have dt := Lib.hid ct
    clear ct
    by_cases hn : n < 0
    · clear hok
      go_enter Tryd.func11, Tryd.ntmps11
      go_wp2_with (first
        | (go_at_call 26; (with_reducible refine (dt.out _ ht).mono ?_); rintro e w1 ⟨rfl, hw1⟩)
        | (go_at_call 18; (with_reducible refine (awake_any _ (ht.on hw1)).mono ?_); rintro e w2 ⟨rfl, hw2⟩)
        | (go_at_call 18; (with_reducible refine (awake_any _ (ht.on (hw1.trans hw2))).mono ?_); rintro e w3 ⟨rfl, hw3⟩))
      go_ret
      exact ⟨rfl, hw1.trans (hw2.trans hw3)⟩
    · have hf : FM.num n = false := FM.num_mk_no (by omega)
      clear hok
      go_enter Tryd.func11, Tryd.ntmps11
      go_wp2_with (first
        | (go_at_call 26; (with_reducible refine (dt.out _ ht).mono ?_); rintro e w1 ⟨rfl, hw1⟩)
        | (go_at_call 18; (with_reducible refine (awake_any _ (ht.on hw1)).mono ?_); rintro e w2 ⟨rfl, hw2⟩)
        | (go_at_call 18; (with_reducible refine (awake_any _ (ht.on (hw1.trans hw2))).mono ?_); rintro e w3 ⟨rfl, hw3⟩)
        | (go_at_call 29; (with_reducible refine (rnum_any _ _).mono ?_); rintro e w' ⟨rfl, rfl⟩))
      go_ret
      exact ⟨rfl, hw1.trans (hw2.trans hw3)⟩
end Go.Proofs.YtjlijpdnefficaaDoor
