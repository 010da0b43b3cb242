/- What package lex gives of a string within its marks. -/
import Derived.Test.YtfabafolbelhdaaDoorLexScan
import Derived.Test.YtfabafolbelhdaaDoorOwnS
namespace Go.Proofs.YtfabafolbelhdaaDoor
open Go.ChangeShapes Go.WideShapes Go.ChangeAt Go.RowKit

set_option maxRecDepth 100000 in
theorem stringOf_any {w : World} {B : Nat} {v : Value} {t : List UInt8} (h : OwnB w B v t) (hl : t.length ≤ 1000000) (n : Nat) :
    Calls Tryd.prog 61 #[v, .int .i64 (n : Nat)] w fun e w' => e = .returned (tka (if 500 < t.length then LM.bad 14 else LM.tok 12 0 t n)) ∧ Went w w' := by
  have hcv := fun (w' : World) (k : Below w.heap.size w w') => OwnB.conv (own_below h k : OwnB w' B v t)
  obtain ⟨A, c, rfl⟩ := h.read
  by_cases h5 : 500 < t.length
  · rw [if_pos h5]
    clear hcv h
    go_enter Tryd.func61, Tryd.ntmps61
    go_wp2
    exact bodyPost_ret (v := .tuple #[.agg #[.int .i64 0, .int .i64 0, .string ⟨#[]⟩, .int .i64 0, .int .i64 0, .int .i64 0], .iface 48 (.int .i64 14)]) (by simp [results, Tryd.results61, go_sem]) rfl ⟨rfl, (Below.refl _ _).alloc (Nat.le_refl _) _⟩
  · rw [if_neg h5]
    have hc := hcv (w.alloc (.cells #[.int .i64 0, .int .i64 0, .string ⟨#[]⟩, .int .i64 0, .int .i64 0, .int .i64 0] 44)) ((Below.refl _ _).alloc (Nat.le_refl _) _)
    clear hcv h
    go_enter Tryd.func61, Tryd.ntmps61
    go_wp2
    exact bodyPost_ret (v := .tuple #[.agg #[.int .i64 12, .int .i64 0, .string ⟨t.toArray⟩, .int .i64 0, .int .i64 0, .int .i64 n], .nilIface]) (by simp [results, Tryd.results61, go_sem]) rfl ⟨rfl, (Below.refl _ _).alloc (Nat.le_refl _) _⟩

theorem qt_mark {s : ByteArray} {k : Nat} {acc : List UInt8} {R : Int × List UInt8 × Nat} (h : k < s.size) (hc : s[k] = 34) (H : LM.qt (s.data.toList.drop k) acc k = R) : R = (0, acc, k + 1) := by
  rw [drop_cons h, LM.qt.eq_def] at H
  simp only at H
  rw [if_pos hc] at H; exact H.symm
theorem qt_plain {s : ByteArray} {k : Nat} {acc : List UInt8} {R : Int × List UInt8 × Nat} (h : k < s.size) (h1 : s[k] ≠ 34) (h2 : s[k] ≠ 92) (H : LM.qt (s.data.toList.drop k) acc k = R) :
    LM.qt (s.data.toList.drop (k + 1)) (acc ++ [s[k]]) (k + 1) = R := by
  rw [drop_cons h, LM.qt.eq_def] at H
  simp only at H
  rw [if_neg h1, if_neg h2] at H; exact H
theorem qt_end {s : ByteArray} {k : Nat} {acc : List UInt8} {R : Int × List UInt8 × Nat} (h : s.size ≤ k) (H : LM.qt (s.data.toList.drop k) acc k = R) : R = (5, [], 0) := by
  rw [drop_end h, LM.qt.eq_def] at H; exact H.symm
theorem qt_cut {s : ByteArray} {k : Nat} {acc : List UInt8} {R : Int × List UInt8 × Nat} (h : k < s.size) (h2 : s[k] = 92) (h3 : k + 1 = s.size) (H : LM.qt (s.data.toList.drop k) acc k = R) : R = (5, [], 0) := by
  rw [drop_cons h, LM.qt.eq_def] at H
  simp only at H
  rw [if_neg (by rw [h2]; decide), if_pos h2, drop_end (by omega)] at H; exact H.symm
theorem qt_bad {s : ByteArray} {k : Nat} {acc : List UInt8} {R : Int × List UInt8 × Nat} (h : k < s.size) (h2 : s[k] = 92) (h3 : k + 1 < s.size) (he : LM.esc s[k + 1] = none) (H : LM.qt (s.data.toList.drop k) acc k = R) : R = (6, [], 0) := by
  rw [drop_cons h, LM.qt.eq_def] at H
  simp only at H
  rw [if_neg (by rw [h2]; decide), if_pos h2, drop_cons h3] at H
  simp only [he] at H
  exact H.symm
theorem qt_stroke {s : ByteArray} {k : Nat} {acc : List UInt8} {R : Int × List UInt8 × Nat} {x : UInt8} (h : k < s.size) (h2 : s[k] = 92) (h3 : k + 1 < s.size) (he : LM.esc s[k + 1] = some x) (H : LM.qt (s.data.toList.drop k) acc k = R) :
    LM.qt (s.data.toList.drop (k + 2)) (acc ++ [x]) (k + 2) = R := by
  rw [drop_cons h, LM.qt.eq_def] at H
  simp only at H
  rw [if_neg (by rw [h2]; decide), if_pos h2, drop_cons h3] at H
  simp only [he] at H
  exact H
theorem cap_more {acc : List UInt8} (x : UInt8) (h : (acc.take 501).length ≤ 500) : (acc ++ [x]).take 501 = acc.take 501 ++ [x] := by
  rw [List.length_take] at h
  rw [List.take_of_length_le (l := acc ++ [x]) (by simp; omega), List.take_of_length_le (l := acc) (by omega)]
theorem cap_full {acc : List UInt8} (x : UInt8) (h : ¬ (acc.take 501).length ≤ 500) : (acc ++ [x]).take 501 = acc.take 501 := by
  rw [List.length_take] at h
  rw [List.take_append_of_le_length (by omega)]
theorem cap_done (acc : List UInt8) (n : Nat) : (if 500 < (acc.take 501).length then LM.bad 14 else LM.tok 12 0 (acc.take 501) n) = LM.ofq (0, acc, n) := by
  show _ = if (0 : Int) ≠ 0 then LM.bad 0 else if 500 < acc.length then LM.bad 14 else LM.tok 12 0 acc n
  rw [if_neg (c := (0 : Int) ≠ 0) (by simp)]
  by_cases h : 500 < acc.length
  · rw [if_pos (by rw [List.length_take]; omega), if_pos h]
  · rw [if_neg (by rw [List.length_take]; omega), if_neg h, List.take_of_length_le (by omega)]
theorem byte_eq {c : UInt8} {n : Nat} (hn : n < 256) (h : c = UInt8.ofNat n) : ((c.toNat : Int) == (n : Int)) = true := by
  subst h; simp; omega
theorem byte_ne {c : UInt8} {n : Nat} (hn : n < 256) (h : c ≠ UInt8.ofNat n) : ((c.toNat : Int) == (n : Int)) = false := by
  simp only [beq_eq_false_iff_ne, ne_eq]
  intro e; apply h; apply UInt8.toNat_inj.1; simp; omega

set_option maxRecDepth 100000 in
set_option maxHeartbeats 1000000 in
theorem quoted_any (s : ByteArray) (h1 : 1 ≤ s.size) (hs : s.size ≤ 281474976710656) (w : World) :
    Calls Tryd.prog 53 #[.string s] w fun e w' => e = .returned (tka (LM.ofq (LM.qt (s.data.toList.drop 1) [] 1))) ∧ Went w w' := by
  obtain ⟨R, hR⟩ : ∃ R, LM.qt (s.data.toList.drop 1) [] 1 = R := ⟨_, rfl⟩
  rw [hR]
  have h0 := Lib.hid hR
  clear hR
  go_enter Tryd.func53, Tryd.ntmps53
  go_wp2
  go_loopw [4, 5] (fun v i wr => ∃ (k : Nat) (acc tx : List UInt8), 1 ≤ k ∧ k ≤ s.size ∧ i = .int .i64 k ∧ Hid (tx = acc.take 501) ∧ OwnB wr (w.heap.size + 1) v tx ∧ Below (w.heap.size + 1) (w.alloc (.cells #[.int .i64 0, .int .i64 0, .string ⟨#[]⟩, .int .i64 0, .int .i64 0, .int .i64 0] 44)) wr ∧ Hid (LM.qt (s.data.toList.drop k) acc k = R)) (fun _ i _ => s.size - (intOf i).toNat)
  case atStart => exact ⟨1, [], [], by omega, h1, rfl, rfl, OwnB.none_ _ _, Below.refl _ _, h0⟩
  case round =>
    obtain ⟨k, acc, tx, hk1, hk, rfl, htx, hown, hb, H⟩ := hrel
    have hz0 : (w.alloc (.cells #[.int .i64 0, .int .i64 0, .string ⟨#[]⟩, .int .i64 0, .int .i64 0, .int .i64 0] 44)).heap.size = w.heap.size + 1 := by simp
    have hz := hb.size
    rw [hz0] at hz
    obtain ⟨hc, hf⟩ := bcell (show Below (w.alloc (.cells #[.int .i64 0, .int .i64 0, .string ⟨#[]⟩, .int .i64 0, .int .i64 0, .int .i64 0] 44)).heap.size _ wr from hz0 ▸ hb)
    have hbw : Below w.heap.size w wr := below_new (hz0 ▸ hb)
    clear hz0
    have hoz : tx.length ≤ 501 := by rw [htx.out]; simp; omega
    have hstr := fun n => stringOf_any hown (by omega) n
    have hap : ∀ (x : UInt8), tx.length ≤ 500 → ∀ (v' : Value) (w' : World), w'.ownsRow (w.heap.size + 1) 5 1 v' (tx.length + 1) (Lib.byteCells tx ++ [Value.int .u8 (x.toNat : Int)]) → OwnB w' (w.heap.size + 1) v' (tx ++ [x]) ∧ tx ++ [x] = (acc ++ [x]).take 501 := fun x hx v' w' h => by
      refine ⟨?_, by rw [cap_more x (by rw [← htx.out]; exact hx), htx.out]⟩
      unfold OwnB
      rw [List.length_append, ← byte_push]
      exact h
    have hfl : ∀ (x : UInt8), ¬ tx.length ≤ 500 → tx = (acc ++ [x]).take 501 := fun x hx => by
      rw [cap_full x (by rw [← htx.out]; exact hx), htx.out]
    have hcd := fun n => cap_done acc n
    rw [← htx.out] at hcd
    have hcd' := Lib.hid hcd
    clear hcd
    obtain ⟨A4, c4, rfl⟩ := hown.read
    by_cases hlt : k < s.size
    · by_cases c1 : s[k] = 34
      · have e1 := byte_eq (n := 34) (by omega) c1
        have hR := Lib.hid (qt_mark hlt c1 H.out)
        have hst := hstr (k + 1)
        rw [show ((k + 1 : Nat) : Int) = (k : Int) + 1 from rfl] at hst
        have hst' := Lib.hid hst
        clear hst
        clear hstr hap hfl c1
        have hz' : w.heap.size < wr.heap.size := by omega
        go_wp2_with (go_at_call 61; refine hst'.out.mono ?_; rintro e w1 ⟨rfl, hb1⟩; rw [hcd'.out, ← hR.out]; unfold tka; have hc1 := (bcell hb1).1; have hf1 := (bcell hb1).2)
        refine bodyPost_ret (v := .tuple #[.agg #[.int .i64 (LM.ofq R).k, .int .i64 (LM.ofq R).n, .string ⟨(LM.ofq R).s.toArray⟩, .int .i64 0, .int .i64 0, .int .i64 ((LM.ofq R).len : Nat)], er (LM.ofq R).e]) (by simp [results, Tryd.results53, go_sem, hc1, hc, hz']) rfl ⟨rfl, ?_⟩
        exact below_six (hbw.trans (hb1.mono (by omega))) (Nat.le_refl _) _ _ _ _ _ _
      · have e1 := byte_ne (n := 34) (by omega) c1
        by_cases c2 : s[k] = 92
        · have e2 := byte_eq (n := 92) (by omega) c2
          by_cases h3 : k + 1 < s.size
          · have g3 : (((k : Int) + 1) == s.size) = false := by simp only [beq_eq_false_iff_ne, ne_eq]; omega
            cases he : LM.esc s[k + 1] with
            | none =>
              have hR := Lib.hid (qt_bad hlt c2 h3 he H.out)
              have hes := escaped_any s[k + 1]
              rw [he] at hes
              unfold esv at hes
              have hes' := Lib.hid hes
              clear hes hstr hap hfl c1 c2 he
              go_wp2_with (go_at_call 62; refine (hes'.out _).mono ?_; rintro e w' ⟨rfl, rfl⟩)
              refine bodyPost_ret (v := .tuple #[.agg #[.int .i64 0, .int .i64 0, .string ⟨#[]⟩, .int .i64 0, .int .i64 0, .int .i64 0], .iface 48 (.int .i64 6)]) (by simp [results, Tryd.results53, go_sem, hc]) rfl ⟨by rw [hR.out]; rfl, ?_⟩
              exact below_six hbw (Nat.le_refl _) _ _ _ _ _ _
            | some x =>
              have hN := Lib.hid (qt_stroke hlt c2 h3 he H.out)
              have hes := escaped_any s[k + 1]
              rw [he] at hes
              unfold esv at hes
              have hes' := Lib.hid hes
              have hcapf := Lib.hid (hfl x)
              have hap' := Lib.hid (hap x)
              clear hes hstr hap hfl c1 c2 he
              by_cases hq : tx.length ≤ 500
              · go_wp2_with (first
                  | (go_at_call 62; refine (hes'.out _).mono ?_; rintro e w' ⟨rfl, rfl⟩)
                  | (at_builtin
                     refine wpList_append_own (v := .slice A4 tx.length c4) (x := .slice (some ⟨wr.heap.size, 0, none⟩) 1 1) (.int .u8 0) 1 Tryd.infoByte rfl (by decide) rfl _ _ 38 rfl Tryd.underlying38 rfl rfl (own_turns hown ((Turns.refl (fun _ => False) _).alloc _) (fun _ _ h => h)) (own_one (B := w.heap.size + 1) wr #[.int .u8 x.toNat] rfl (by omega)) (by simp [Value.oneCell']) (by omega) (by omega) (by simp; omega) ?_
                     intro v9 w9 hown9 hg9 hat9
                     clear hat9))
                have hb9 : Below (w.heap.size + 1) (w.alloc (.cells #[.int .i64 0, .int .i64 0, .string ⟨#[]⟩, .int .i64 0, .int .i64 0, .int .i64 0] 44)) w9 := (hb.alloc (by omega) _).trans ⟨hg9.os, hg9.tape, hg9.output, hg9.size, fun i hi => hg9.block i (by simp; omega) (fun e => by have := World.ownsRow.lt hown i e.symm; omega)⟩
                obtain ⟨hown10, htx10⟩ := hap'.out hq v9 w9 hown9
                have htx11 := Lib.hid htx10
                clear htx10
                go_roundw
                case rel => exact ⟨k + 2, acc ++ [x], tx ++ [x], by omega, by omega, by go_num, htx11, hown10, hb9, hN⟩
                case measure => simp [intOf]; omega
              · go_wp2_with (go_at_call 62; refine (hes'.out _).mono ?_; rintro e w' ⟨rfl, rfl⟩)
                go_roundw
                case rel => exact ⟨k + 2, acc ++ [x], tx, by omega, by omega, by go_num, Lib.hid (hcapf.out hq), hown, hb, hN⟩
                case measure => simp [intOf]; omega
          · have g3 : (((k : Int) + 1) == s.size) = true := by simp only [beq_iff_eq]; omega
            have hR := Lib.hid (qt_cut hlt c2 (by omega) H.out)
            clear hstr hap hfl c1 c2
            go_wp2
            refine bodyPost_ret (v := .tuple #[.agg #[.int .i64 0, .int .i64 0, .string ⟨#[]⟩, .int .i64 0, .int .i64 0, .int .i64 0], .iface 48 (.int .i64 5)]) (by simp [results, Tryd.results53, go_sem, hc]) rfl ⟨by rw [hR.out]; rfl, ?_⟩
            exact below_six hbw (Nat.le_refl _) _ _ _ _ _ _
        · have e2 := byte_ne (n := 92) (by omega) c2
          have hN := Lib.hid (qt_plain hlt c1 c2 H.out)
          have hcapf := Lib.hid (hfl s[k])
          have hap' := Lib.hid (hap s[k])
          clear hstr hap hfl c1 c2
          by_cases hq : tx.length ≤ 500
          · go_wp2_with (
              at_builtin
              refine wpList_append_own (v := .slice A4 tx.length c4) (x := .slice (some ⟨wr.heap.size, 0, none⟩) 1 1) (.int .u8 0) 1 Tryd.infoByte rfl (by decide) rfl _ _ 38 rfl Tryd.underlying38 rfl rfl (own_turns hown ((Turns.refl (fun _ => False) _).alloc _) (fun _ _ h => h)) (own_one (B := w.heap.size + 1) wr #[.int .u8 s[k].toNat] rfl (by omega)) (by simp [Value.oneCell']) (by omega) (by omega) (by simp; omega) ?_
              intro v9 w9 hown9 hg9 hat9
              clear hat9)
            have hb9 : Below (w.heap.size + 1) (w.alloc (.cells #[.int .i64 0, .int .i64 0, .string ⟨#[]⟩, .int .i64 0, .int .i64 0, .int .i64 0] 44)) w9 := (hb.alloc (by omega) _).trans ⟨hg9.os, hg9.tape, hg9.output, hg9.size, fun i hi => hg9.block i (by simp; omega) (fun e => by have := World.ownsRow.lt hown i e.symm; omega)⟩
            obtain ⟨hown10, htx10⟩ := hap'.out hq v9 w9 hown9
            have htx11 := Lib.hid htx10
            clear htx10
            go_roundw
            case rel => exact ⟨k + 1, acc ++ [s[k]], tx ++ [s[k]], by omega, by omega, by go_num, htx11, hown10, hb9, hN⟩
            case measure => simp [intOf]; omega
          · go_wp2
            go_roundw
            case rel => exact ⟨k + 1, acc ++ [s[k]], tx, by omega, by omega, by go_num, Lib.hid (hcapf.out hq), hown, hb, hN⟩
            case measure => simp [intOf]; omega
    · have hR := Lib.hid (qt_end (by omega) H.out)
      clear hstr hap hfl
      go_wp2
      refine bodyPost_ret (v := .tuple #[.agg #[.int .i64 0, .int .i64 0, .string ⟨#[]⟩, .int .i64 0, .int .i64 0, .int .i64 0], .iface 48 (.int .i64 5)]) (by simp [results, Tryd.results53, go_sem, hc]) rfl ⟨by rw [hR.out]; rfl, ?_⟩
      exact below_six hbw (Nat.le_refl _) _ _ _ _ _ _
end Go.Proofs.YtfabafolbelhdaaDoor
