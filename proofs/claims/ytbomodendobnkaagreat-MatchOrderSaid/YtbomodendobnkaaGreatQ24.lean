/- What package lex gives of a string within its marks. -/
import Derived.Test.YtbomodendobnkaaGreatQ23
import Derived.Test.YtbomodendobnkaaGreatQ2
namespace Go.Proofs.YtbomodendobnkaaGreat
open Go.ChangeShapes Go.WideShapes Go.ChangeAt Go.RowKit

set_option maxRecDepth 100000 in
theorem stringOf_any {w : World} {B : Nat} {v : Value} {t : List UInt8} (h : OwnB w B v t) (hl : t.length ≤ 1000000) (n : Nat) :
    Calls Tryz.prog 104 #[v, .int .i64 (n : Nat)] w fun e w' => e = .returned (tka (if 500 < t.length then LM.bad 14 else LM.tok 12 0 t n)) ∧ Went w w' := by
  have hcv := fun (w' : World) (k : Below w.heap.size w w') => OwnB.conv (own_below h k : OwnB w' B v t)
  obtain ⟨A, c, rfl⟩ := h.read
  by_cases h5 : 500 < t.length
  · rw [if_pos h5]
    clear hcv h
    go_enter Tryz.func104, Tryz.ntmps104
    go_wp2
    exact bodyPost_ret (v := .tuple #[.agg #[.int .i64 0, .int .i64 0, .string ⟨#[]⟩, .int .i64 0, .int .i64 0, .int .i64 0], .iface 47 (.int .i64 14)]) (by simp [results, Tryz.results104, go_sem]) rfl ⟨rfl, (Below.refl _ _).alloc (Nat.le_refl _) _⟩
  · rw [if_neg h5]
    have hc := hcv (w.alloc (.cells #[.int .i64 0, .int .i64 0, .string ⟨#[]⟩, .int .i64 0, .int .i64 0, .int .i64 0] 103)) ((Below.refl _ _).alloc (Nat.le_refl _) _)
    clear hcv h
    go_enter Tryz.func104, Tryz.ntmps104
    go_wp2
    exact bodyPost_ret (v := .tuple #[.agg #[.int .i64 12, .int .i64 0, .string ⟨t.toArray⟩, .int .i64 0, .int .i64 0, .int .i64 n], .nilIface]) (by simp [results, Tryz.results104, go_sem]) rfl ⟨rfl, (Below.refl _ _).alloc (Nat.le_refl _) _⟩

theorem qt_mark {s : ByteArray} {k : Nat} {acc : List UInt8} {R : Int × List UInt8 × Nat} (h : k < s.size) (hc : s[k] = 34) (H : LM.qt (s.data.toList.drop k) acc k = R) : R = (0, acc, k + 1) := by
  rw [drop_cons h, LM.qt.eq_def] at H
  simp only at H
  rw [if_pos hc] at H; exact H.symm
theorem qt_plain {s : ByteArray} {k : Nat} {acc : List UInt8} {R : Int × List UInt8 × Nat} (h : k < s.size) (h1 : s[k] ≠ 34) (h2 : s[k] ≠ 92) (H : LM.qt (s.data.toList.drop k) acc k = R) :
    LM.qt (s.data.toList.drop (k + 1)) (acc ++ [s[k]]) (k + 1) = R := by
  rw [drop_cons h, LM.qt.eq_def] at H
  simp only at H
  rw [if_neg h1, if_neg h2] at H; exact H
theorem qt_end {s : ByteArray} {k : Nat} {acc : List UInt8} {R : Int × List UInt8 × Nat} (h : s.size ≤ k) (H : LM.qt (s.data.toList.drop k) acc k = R) : R = (5, [], 0) := by
  rw [drop_end h, LM.qt.eq_def] at H; exact H.symm
theorem qt_cut {s : ByteArray} {k : Nat} {acc : List UInt8} {R : Int × List UInt8 × Nat} (h : k < s.size) (h2 : s[k] = 92) (h3 : k + 1 = s.size) (H : LM.qt (s.data.toList.drop k) acc k = R) : R = (5, [], 0) := by
  rw [drop_cons h, LM.qt.eq_def] at H
  simp only at H
  rw [if_neg (by rw [h2]; decide), if_pos h2, drop_end (by omega)] at H; exact H.symm
theorem qt_bad {s : ByteArray} {k : Nat} {acc : List UInt8} {R : Int × List UInt8 × Nat} (h : k < s.size) (h2 : s[k] = 92) (h3 : k + 1 < s.size) (he : LM.esc s[k + 1] = none) (H : LM.qt (s.data.toList.drop k) acc k = R) : R = (6, [], 0) := by
  rw [drop_cons h, LM.qt.eq_def] at H
  simp only at H
  rw [if_neg (by rw [h2]; decide), if_pos h2, drop_cons h3] at H
  simp only [he] at H
  exact H.symm
theorem qt_stroke {s : ByteArray} {k : Nat} {acc : List UInt8} {R : Int × List UInt8 × Nat} {x : UInt8} (h : k < s.size) (h2 : s[k] = 92) (h3 : k + 1 < s.size) (he : LM.esc s[k + 1] = some x) (H : LM.qt (s.data.toList.drop k) acc k = R) :
    LM.qt (s.data.toList.drop (k + 2)) (acc ++ [x]) (k + 2) = R := by
  rw [drop_cons h, LM.qt.eq_def] at H
  simp only at H
  rw [if_neg (by rw [h2]; decide), if_pos h2, drop_cons h3] at H
  simp only [he] at H
  exact H
theorem cap_more {acc : List UInt8} (x : UInt8) (h : (acc.take 501).length ≤ 500) : (acc ++ [x]).take 501 = acc.take 501 ++ [x] := by
  rw [List.length_take] at h
  rw [List.take_of_length_le (l := acc ++ [x]) (by simp; omega), List.take_of_length_le (l := acc) (by omega)]
theorem cap_full {acc : List UInt8} (x : UInt8) (h : ¬ (acc.take 501).length ≤ 500) : (acc ++ [x]).take 501 = acc.take 501 := by
  rw [List.length_take] at h
  rw [List.take_append_of_le_length (by omega)]
theorem cap_done (acc : List UInt8) (n : Nat) : (if 500 < (acc.take 501).length then LM.bad 14 else LM.tok 12 0 (acc.take 501) n) = LM.ofq (0, acc, n) := by
  show _ = if (0 : Int) ≠ 0 then LM.bad 0 else if 500 < acc.length then LM.bad 14 else LM.tok 12 0 acc n
  rw [if_neg (c := (0 : Int) ≠ 0) (by simp)]
  by_cases h : 500 < acc.length
  · rw [if_pos (by rw [List.length_take]; omega), if_pos h]
  · rw [if_neg (by rw [List.length_take]; omega), if_neg h, List.take_of_length_le (by omega)]
theorem byte_eq {c : UInt8} {n : Nat} (hn : n < 256) (h : c = UInt8.ofNat n) : ((c.toNat : Int) == (n : Int)) = true := by
  subst h; simp; omega
theorem byte_ne {c : UInt8} {n : Nat} (hn : n < 256) (h : c ≠ UInt8.ofNat n) : ((c.toNat : Int) == (n : Int)) = false := by
  simp only [beq_eq_false_iff_ne, ne_eq]
  intro e; apply h; apply UInt8.toNat_inj.1; simp; omega

set_option maxRecDepth 100000 in
set_option maxHeartbeats 1000000 in
theorem quoted_any (s : ByteArray) (h1 : 1 ≤ s.size) (hs : s.size ≤ 281474976710656) (w : World) :
    Calls Tryz.prog 98 #[.string s] w fun e w' => e = .returned (tka (LM.ofq (LM.qt (s.data.toList.drop 1) [] 1))) ∧ Went w w' := by
  obtain ⟨R, hR⟩ : ∃ R, LM.qt (s.data.toList.drop 1) [] 1 = R := ⟨_, rfl⟩
  rw [hR]
  have h0 := Lib.hid hR
  clear hR
  go_enter Tryz.func98, Tryz.ntmps98
  go_wp2
  go_loopw [4, 5] (fun v i wr => ∃ (k : Nat) (acc tx : List UInt8), 1 ≤ k ∧ k ≤ s.size ∧ i = .int .i64 k ∧ Hid (tx = acc.take 501) ∧ OwnB wr (w.heap.size + 1) v tx ∧ Below (w.heap.size + 1) (w.alloc (.cells #[.int .i64 0, .int .i64 0, .string ⟨#[]⟩, .int .i64 0, .int .i64 0, .int .i64 0] 103)) wr ∧ Hid (LM.qt (s.data.toList.drop k) acc k = R)) (fun _ i _ => s.size - (intOf i).toNat)
  case atStart => exact ⟨1, [], [], by omega, h1, rfl, rfl, OwnB.none_ _ _, Below.refl _ _, h0⟩
  case round =>
    obtain ⟨k, acc, tx, hk1, hk, rfl, htx, hown, hb, H⟩ := hrel
    have hz0 : (w.alloc (.cells #[.int .i64 0, .int .i64 0, .string ⟨#[]⟩, .int .i64 0, .int .i64 0, .int .i64 0] 103)).heap.size = w.heap.size + 1 := by simp
    have hz := hb.size
    rw [hz0] at hz
    obtain ⟨hc, hf⟩ := bcell (show Below (w.alloc (.cells #[.int .i64 0, .int .i64 0, .string ⟨#[]⟩, .int .i64 0, .int .i64 0, .int .i64 0] 103)).heap.size _ wr from hz0 ▸ hb)
    have hbw : Below w.heap.size w wr := below_new (hz0 ▸ hb)
    clear hz0
    have hoz : tx.length ≤ 501 := by rw [htx.out]; simp; omega
    have hstr := fun n => stringOf_any hown (by omega) n
    have hap : ∀ (x : UInt8), tx.length ≤ 500 → ∀ (v' : Value) (w' : World), w'.ownsRow (w.heap.size + 1) 5 1 v' (tx.length + 1) (Lib.byteCells tx ++ [Value.int .u8 (x.toNat : Int)]) → OwnB w' (w.heap.size + 1) v' (tx ++ [x]) ∧ tx ++ [x] = (acc ++ [x]).take 501 := fun x hx v' w' h => by
      refine ⟨?_, by rw [cap_more x (by rw [← htx.out]; exact hx), htx.out]⟩
      unfold OwnB
      rw [List.length_append, ← byte_push]
      exact h
    have hfl : ∀ (x : UInt8), ¬ tx.length ≤ 500 → tx = (acc ++ [x]).take 501 := fun x hx => by
      rw [cap_full x (by rw [← htx.out]; exact hx), htx.out]
    have hcd := fun n => cap_done acc n
    rw [← htx.out] at hcd
    have hcd' := Lib.hid hcd
    clear hcd
    obtain ⟨A4, c4, rfl⟩ := hown.read
    by_cases hlt : k < s.size
    · by_cases c1 : s[k] = 34
      · have e1 := byte_eq (n := 34) (by omega) c1
        have hR := Lib.hid (qt_mark hlt c1 H.out)
        have hst := hstr (k + 1)
        rw [show ((k + 1 : Nat) : Int) = (k : Int) + 1 from rfl] at hst
        have hst' := Lib.hid hst
        clear hst
        clear hstr hap hfl c1
        have hz' : w.heap.size < wr.heap.size := by omega
        go_wp2_with (go_at_call 104; refine hst'.out.mono ?_; rintro e w1 ⟨rfl, hb1⟩; rw [hcd'.out, ← hR.out]; unfold tka; have hc1 := (bcell hb1).1; have hf1 := (bcell hb1).2)
        refine bodyPost_ret (v := .tuple #[.agg #[.int .i64 (LM.ofq R).k, .int .i64 (LM.ofq R).n, .string ⟨(LM.ofq R).s.toArray⟩, .int .i64 0, .int .i64 0, .int .i64 ((LM.ofq R).len : Nat)], er (LM.ofq R).e]) (by simp [results, Tryz.results98, go_sem, hc1, hc, hz']) rfl ⟨rfl, ?_⟩
        exact below_six (hbw.trans (hb1.mono (by omega))) (Nat.le_refl _) _ _ _ _ _ _
      · have e1 := byte_ne (n := 34) (by omega) c1
        by_cases c2 : s[k] = 92
        · have e2 := byte_eq (n := 92) (by omega) c2
          by_cases h3 : k + 1 < s.size
          · have g3 : (((k : Int) + 1) == s.size) = false := by simp only [beq_eq_false_iff_ne, ne_eq]; omega
            cases he : LM.esc s[k + 1] with
            | none =>
              have hR := Lib.hid (qt_bad hlt c2 h3 he H.out)
              have hes := escaped_any s[k + 1]
              rw [he] at hes
              unfold esv at hes
              have hes' := Lib.hid hes
              clear hes hstr hap hfl c1 c2 he
              go_wp2_with (go_at_call 105; refine (hes'.out _).mono ?_; rintro e w' ⟨rfl, rfl⟩)
              refine bodyPost_ret (v := .tuple #[.agg #[.int .i64 0, .int .i64 0, .string ⟨#[]⟩, .int .i64 0, .int .i64 0, .int .i64 0], .iface 47 (.int .i64 6)]) (by simp [results, Tryz.results98, go_sem, hc]) rfl ⟨by rw [hR.out]; rfl, ?_⟩
              exact below_six hbw (Nat.le_refl _) _ _ _ _ _ _
            | some x =>
              have hN := Lib.hid (qt_stroke hlt c2 h3 he H.out)
              have hes := escaped_any s[k + 1]
              rw [he] at hes
              unfold esv at hes
              have hes' := Lib.hid hes
              have hcapf := Lib.hid (hfl x)
              have hap' := Lib.hid (hap x)
              clear hes hstr hap hfl c1 c2 he
              by_cases hq : tx.length ≤ 500
              · go_wp2_with (first
                  | (go_at_call 105; refine (hes'.out _).mono ?_; rintro e w' ⟨rfl, rfl⟩)
                  | (at_builtin
                     refine wpList_append_own (v := .slice A4 tx.length c4) (x := .slice (some ⟨wr.heap.size, 0, none⟩) 1 1) (.int .u8 0) 1 Tryz.infoByte rfl (by decide) rfl _ _ 92 rfl Tryz.underlying92 rfl rfl (own_turns hown ((Turns.refl (fun _ => False) _).alloc _) (fun _ _ h => h)) (own_one (B := w.heap.size + 1) wr #[.int .u8 x.toNat] rfl (by omega)) (by simp [Value.oneCell']) (by omega) (by omega) (by simp; omega) ?_
                     intro v9 w9 hown9 hg9 hat9
                     clear hat9))
                have hb9 : Below (w.heap.size + 1) (w.alloc (.cells #[.int .i64 0, .int .i64 0, .string ⟨#[]⟩, .int .i64 0, .int .i64 0, .int .i64 0] 103)) w9 := (hb.alloc (by omega) _).trans ⟨hg9.os, hg9.tape, hg9.output, hg9.size, fun i hi => hg9.block i (by simp; omega) (fun e => by have := World.ownsRow.lt hown i e.symm; omega)⟩
                obtain ⟨hown10, htx10⟩ := hap'.out hq v9 w9 hown9
                have htx11 := Lib.hid htx10
                clear htx10
                go_roundw
                case rel => exact ⟨k + 2, acc ++ [x], tx ++ [x], by omega, by omega, by go_num, htx11, hown10, hb9, hN⟩
                case measure => simp [intOf]; omega
              · go_wp2_with (go_at_call 105; refine (hes'.out _).mono ?_; rintro e w' ⟨rfl, rfl⟩)
                go_roundw
                case rel => exact ⟨k + 2, acc ++ [x], tx, by omega, by omega, by go_num, Lib.hid (hcapf.out hq), hown, hb, hN⟩
                case measure => simp [intOf]; omega
          · have g3 : (((k : Int) + 1) == s.size) = true := by simp only [beq_iff_eq]; omega
            have hR := Lib.hid (qt_cut hlt c2 (by omega) H.out)
            clear hstr hap hfl c1 c2
            go_wp2
            refine bodyPost_ret (v := .tuple #[.agg #[.int .i64 0, .int .i64 0, .string ⟨#[]⟩, .int .i64 0, .int .i64 0, .int .i64 0], .iface 47 (.int .i64 5)]) (by simp [results, Tryz.results98, go_sem, hc]) rfl ⟨by rw [hR.out]; rfl, ?_⟩
            exact below_six hbw (Nat.le_refl _) _ _ _ _ _ _
        · have e2 := byte_ne (n := 92) (by omega) c2
          have hN := Lib.hid (qt_plain hlt c1 c2 H.out)
          have hcapf := Lib.hid (hfl s[k])
          have hap' := Lib.hid (hap s[k])
          clear hstr hap hfl c1 c2
          by_cases hq : tx.length ≤ 500
          · go_wp2_with (
              at_builtin
              refine wpList_append_own (v := .slice A4 tx.length c4) (x := .slice (some ⟨wr.heap.size, 0, none⟩) 1 1) (.int .u8 0) 1 Tryz.infoByte rfl (by decide) rfl _ _ 92 rfl Tryz.underlying92 rfl rfl (own_turns hown ((Turns.refl (fun _ => False) _).alloc _) (fun _ _ h => h)) (own_one (B := w.heap.size + 1) wr #[.int .u8 s[k].toNat] rfl (by omega)) (by simp [Value.oneCell']) (by omega) (by omega) (by simp; omega) ?_
              intro v9 w9 hown9 hg9 hat9
              clear hat9)
            have hb9 : Below (w.heap.size + 1) (w.alloc (.cells #[.int .i64 0, .int .i64 0, .string ⟨#[]⟩, .int .i64 0, .int .i64 0, .int .i64 0] 103)) w9 := (hb.alloc (by omega) _).trans ⟨hg9.os, hg9.tape, hg9.output, hg9.size, fun i hi => hg9.block i (by simp; omega) (fun e => by have := World.ownsRow.lt hown i e.symm; omega)⟩
            obtain ⟨hown10, htx10⟩ := hap'.out hq v9 w9 hown9
            have htx11 := Lib.hid htx10
            clear htx10
            go_roundw
            case rel => exact ⟨k + 1, acc ++ [s[k]], tx ++ [s[k]], by omega, by omega, by go_num, htx11, hown10, hb9, hN⟩
            case measure => simp [intOf]; omega
          · go_wp2
            go_roundw
            case rel => exact ⟨k + 1, acc ++ [s[k]], tx, by omega, by omega, by go_num, Lib.hid (hcapf.out hq), hown, hb, hN⟩
            case measure => simp [intOf]; omega
    · have hR := Lib.hid (qt_end (by omega) H.out)
      clear hstr hap hfl
      go_wp2
      refine bodyPost_ret (v := .tuple #[.agg #[.int .i64 0, .int .i64 0, .string ⟨#[]⟩, .int .i64 0, .int .i64 0, .int .i64 0], .iface 47 (.int .i64 5)]) (by simp [results, Tryz.results98, go_sem, hc]) rfl ⟨by rw [hR.out]; rfl, ?_⟩
      exact below_six hbw (Nat.le_refl _) _ _ _ _ _ _
end Go.Proofs.YtbomodendobnkaaGreat

/- What package lex gives of a text's token at any place. -/
namespace Go.Proofs.YtbomodendobnkaaGreat
open Go.ChangeShapes Go.WideShapes Go.ChangeAt Go.RowKit

theorem scn_cons {s : ByteArray} (h : 1 ≤ s.size) : LM.scn s.data.toList =
    if (s[0].toNat : Int) = 44 then (if LM.hd (s.data.toList.drop 1) = 64 then LM.tok 7 0 [] 2 else LM.tok 6 0 [] 1)
    else if (s[0].toNat : Int) = 35 ∧ LM.hd (s.data.toList.drop 1) = 40 then LM.tok 3 0 [] 2
    else if (s[0].toNat : Int) = 35 ∧ LM.hd (s.data.toList.drop 1) = 92 then LM.chr (s.data.toList.drop 2)
    else if (s[0].toNat : Int) = 40 then LM.tok 1 0 [] 1
    else if (s[0].toNat : Int) = 41 then LM.tok 2 0 [] 1
    else if (s[0].toNat : Int) = 39 then LM.tok 4 0 [] 1
    else if (s[0].toNat : Int) = 96 then LM.tok 5 0 [] 1
    else if (s[0].toNat : Int) = 34 then LM.ofq (LM.qt (s.data.toList.drop 1) [] 1)
    else LM.wrd (s.data.toList.take (LM.wln s.data.toList)) := by
  have e := cons_of (s := s) (by omega)
  have e2 : s.data.toList.drop 2 = (s.data.toList.drop 1).drop 1 := by rw [List.drop_drop]
  rw [e2]
  generalize s.data.toList.drop 1 = r at e ⊢
  rw [e, LM.scn]
theorem pre2_cons {s : ByteArray} (h : 1 ≤ s.size) (a b : Int) : pre2 a b s.data.toList = (decide ((s[0].toNat : Int) = a) && decide (LM.hd (s.data.toList.drop 1) = b)) := by
  have e := cons_of (s := s) (by omega)
  generalize s.data.toList.drop 1 = r at e ⊢
  rw [e, pre2]

/-- a call of mark, by its parts -/
theorem mark_at (k : Int) (b : ByteArray) (n : Nat) (hb : b.size = n) (w : World) :
    Calls Tryz.prog 96 #[.int .i64 k, .string b] w fun e w' => e = .returned (.agg #[.int .i64 k, .int .i64 0, .string ⟨#[]⟩, .int .i64 0, .int .i64 0, .int .i64 (n : Nat)]) ∧ Went w w' := hb ▸ mark_any k b w

section
variable (s : ByteArray) (h1 : 1 ≤ s.size) (w : World)
include h1
/-- the arms that make a token by its mark alone -/
theorem scan_mark (p1 p2 p3 : Bool) (hp1 : pre2 44 64 s.data.toList = p1) (hp2 : pre2 35 40 s.data.toList = p2) (hp3 : pre2 35 92 s.data.toList = p3) (k : Int) (n : Nat)
    (hk : p1 = true ∧ k = 7 ∧ n = 2 ∨ p1 = false ∧ p2 = true ∧ k = 3 ∧ n = 2 ∨ p1 = false ∧ p2 = false ∧ p3 = false ∧ n = 1 ∧ ((s[0].toNat : Int) = 40 ∧ k = 1 ∨ (s[0].toNat : Int) = 41 ∧ k = 2 ∨ (s[0].toNat : Int) = 39 ∧ k = 4 ∨ (s[0].toNat : Int) = 96 ∧ k = 5 ∨ (s[0].toNat : Int) = 44 ∧ k = 6)) :
    Calls Tryz.prog 88 #[.string s] w fun e w' => e = .returned (tka (LM.tok k 0 [] n)) ∧ Went w w' := by
  obtain ⟨e1, e3⟩ := empty_no h1
  have c1 := hasPrefix_two s 44 64
  have c2 := hasPrefix_two s 35 40
  have c3 := hasPrefix_two s 35 92
  rw [show pre2 ((44 : UInt8).toNat) ((64 : UInt8).toNat) s.data.toList = p1 from hp1] at c1
  rw [show pre2 ((35 : UInt8).toNat) ((40 : UInt8).toNat) s.data.toList = p2 from hp2] at c2
  rw [show pre2 ((35 : UInt8).toNat) ((92 : UInt8).toNat) s.data.toList = p3 from hp3] at c3
  have d1 := Lib.hid c1
  have d2 := Lib.hid c2
  have d3 := Lib.hid c3
  clear c1 c2 c3 hp1 hp2 hp3
  rcases hk with ⟨rfl, rfl, rfl⟩ | ⟨rfl, rfl, rfl, rfl⟩ | ⟨rfl, rfl, rfl, rfl, hk⟩
  · go_enter Tryz.func88, Tryz.ntmps88
    go_wp2_with (first
      | (go_at_call 39; (with_reducible refine (d1.out _).mono ?_); rintro e w' ⟨rfl, rfl⟩)
      | (go_at_call 96; refine (mark_at _ _ 2 rfl _).mono ?_; rintro e w1 ⟨rfl, hb⟩; obtain ⟨hc, hf⟩ := bcell hb))
    exact bodyPost_ret (v := .tuple #[.agg #[.int .i64 7, .int .i64 0, .string ⟨#[]⟩, .int .i64 0, .int .i64 0, .int .i64 2], .nilIface]) (by simp [results, Tryz.results88, go_sem, hc]) rfl ⟨rfl, below_six (below_new hb) (Nat.le_refl _) _ _ _ _ _ _⟩
  · go_enter Tryz.func88, Tryz.ntmps88
    go_wp2_with (first
      | (go_at_call 39; (with_reducible refine (d1.out _).mono ?_); rintro e w' ⟨rfl, rfl⟩)
      | (go_at_call 39; (with_reducible refine (d2.out _).mono ?_); rintro e w' ⟨rfl, rfl⟩)
      | (go_at_call 96; refine (mark_at _ _ 2 rfl _).mono ?_; rintro e w1 ⟨rfl, hb⟩; obtain ⟨hc, hf⟩ := bcell hb))
    exact bodyPost_ret (v := .tuple #[.agg #[.int .i64 3, .int .i64 0, .string ⟨#[]⟩, .int .i64 0, .int .i64 0, .int .i64 2], .nilIface]) (by simp [results, Tryz.results88, go_sem, hc]) rfl ⟨rfl, below_six (below_new hb) (Nat.le_refl _) _ _ _ _ _ _⟩
  · rcases hk with ⟨hx, rfl⟩ | ⟨hx, rfl⟩ | ⟨hx, rfl⟩ | ⟨hx, rfl⟩ | ⟨hx, rfl⟩
    all_goals
      go_enter Tryz.func88, Tryz.ntmps88
      go_wp2_with (first
        | (go_at_call 39; (with_reducible refine (d1.out _).mono ?_); rintro e w' ⟨rfl, rfl⟩)
        | (go_at_call 39; (with_reducible refine (d2.out _).mono ?_); rintro e w' ⟨rfl, rfl⟩)
        | (go_at_call 39; (with_reducible refine (d3.out _).mono ?_); rintro e w' ⟨rfl, rfl⟩)
        | (go_at_call 96; refine (mark_at _ _ 1 rfl _).mono ?_; rintro e w1 ⟨rfl, hb⟩; obtain ⟨hc, hf⟩ := bcell hb))
      exact bodyPost_ret (v := .tuple #[.agg #[.int .i64 _, .int .i64 0, .string ⟨#[]⟩, .int .i64 0, .int .i64 0, .int .i64 1], .nilIface]) (by simp [results, Tryz.results88, go_sem, hc]; rfl) rfl ⟨rfl, below_six (below_new hb) (Nat.le_refl _) _ _ _ _ _ _⟩

theorem scan_char (h2 : 2 ≤ s.size) (hs : s.size ≤ 281474976710656) (hp1 : pre2 44 64 s.data.toList = false) (hp2 : pre2 35 40 s.data.toList = false) (hp3 : pre2 35 92 s.data.toList = true) :
    Calls Tryz.prog 88 #[.string s] w fun e w' => e = .returned (tka (LM.chr (s.data.toList.drop 2))) ∧ Went w w' := by
  obtain ⟨e1, e3⟩ := empty_no h1
  have c1 := hasPrefix_two s 44 64
  have c2 := hasPrefix_two s 35 40
  have c3 := hasPrefix_two s 35 92
  rw [show pre2 ((44 : UInt8).toNat) ((64 : UInt8).toNat) s.data.toList = false from hp1] at c1
  rw [show pre2 ((35 : UInt8).toNat) ((40 : UInt8).toNat) s.data.toList = false from hp2] at c2
  rw [show pre2 ((35 : UInt8).toNat) ((92 : UInt8).toNat) s.data.toList = true from hp3] at c3
  have d1 := Lib.hid c1
  have d2 := Lib.hid c2
  have d3 := Lib.hid c3
  have hch := char_any s h2 hs
  generalize LM.chr (s.data.toList.drop 2) = T at *
  have hch' := Lib.hid hch
  clear c1 c2 c3 hp1 hp2 hp3 hch
  go_enter Tryz.func88, Tryz.ntmps88
  go_wp2_with (first
    | (go_at_call 39; (with_reducible refine (d1.out _).mono ?_); rintro e w' ⟨rfl, rfl⟩)
    | (go_at_call 39; (with_reducible refine (d2.out _).mono ?_); rintro e w' ⟨rfl, rfl⟩)
    | (go_at_call 39; (with_reducible refine (d3.out _).mono ?_); rintro e w' ⟨rfl, rfl⟩)
    | (go_at_call 97; refine (hch'.out _).mono ?_; rintro e w1 ⟨rfl, hb⟩; unfold tka; obtain ⟨hc, hf⟩ := bcell hb))
  exact bodyPost_ret (v := .tuple #[.agg #[.int .i64 T.k, .int .i64 T.n, .string ⟨T.s.toArray⟩, .int .i64 0, .int .i64 0, .int .i64 (T.len : Nat)], er T.e]) (by simp [results, Tryz.results88, go_sem, hc]) rfl ⟨rfl, below_six (below_new hb) (Nat.le_refl _) _ _ _ _ _ _⟩

theorem scan_quote (hs : s.size ≤ 281474976710656) (hp1 : pre2 44 64 s.data.toList = false) (hp2 : pre2 35 40 s.data.toList = false) (hp3 : pre2 35 92 s.data.toList = false) (hx : (s[0].toNat : Int) = 34) :
    Calls Tryz.prog 88 #[.string s] w fun e w' => e = .returned (tka (LM.ofq (LM.qt (s.data.toList.drop 1) [] 1))) ∧ Went w w' := by
  obtain ⟨e1, e3⟩ := empty_no h1
  have c1 := hasPrefix_two s 44 64
  have c2 := hasPrefix_two s 35 40
  have c3 := hasPrefix_two s 35 92
  rw [show pre2 ((44 : UInt8).toNat) ((64 : UInt8).toNat) s.data.toList = false from hp1] at c1
  rw [show pre2 ((35 : UInt8).toNat) ((40 : UInt8).toNat) s.data.toList = false from hp2] at c2
  rw [show pre2 ((35 : UInt8).toNat) ((92 : UInt8).toNat) s.data.toList = false from hp3] at c3
  have d1 := Lib.hid c1
  have d2 := Lib.hid c2
  have d3 := Lib.hid c3
  have hch := quoted_any s h1 hs
  generalize LM.ofq (LM.qt (s.data.toList.drop 1) [] 1) = T at *
  have hch' := Lib.hid hch
  clear c1 c2 c3 hp1 hp2 hp3 hch
  go_enter Tryz.func88, Tryz.ntmps88
  go_wp2_with (first
    | (go_at_call 39; (with_reducible refine (d1.out _).mono ?_); rintro e w' ⟨rfl, rfl⟩)
    | (go_at_call 39; (with_reducible refine (d2.out _).mono ?_); rintro e w' ⟨rfl, rfl⟩)
    | (go_at_call 39; (with_reducible refine (d3.out _).mono ?_); rintro e w' ⟨rfl, rfl⟩)
    | (go_at_call 98; refine (hch'.out _).mono ?_; rintro e w1 ⟨rfl, hb⟩; unfold tka; obtain ⟨hc, hf⟩ := bcell hb))
  exact bodyPost_ret (v := .tuple #[.agg #[.int .i64 T.k, .int .i64 T.n, .string ⟨T.s.toArray⟩, .int .i64 0, .int .i64 0, .int .i64 (T.len : Nat)], er T.e]) (by simp [results, Tryz.results88, go_sem, hc]) rfl ⟨rfl, below_six (below_new hb) (Nat.le_refl _) _ _ _ _ _ _⟩

theorem scan_word (hs : s.size ≤ 281474976710656) (hp1 : pre2 44 64 s.data.toList = false) (hp2 : pre2 35 40 s.data.toList = false) (hp3 : pre2 35 92 s.data.toList = false)
    (x1 : ((s[0].toNat : Int) == 40) = false) (x2 : ((s[0].toNat : Int) == 41) = false) (x3 : ((s[0].toNat : Int) == 39) = false) (x4 : ((s[0].toNat : Int) == 96) = false) (x5 : ((s[0].toNat : Int) == 44) = false) (x6 : ((s[0].toNat : Int) == 34) = false) :
    Calls Tryz.prog 88 #[.string s] w fun e w' => e = .returned (tka (LM.wrd (s.data.toList.take (LM.wln s.data.toList)))) ∧ Went w w' := by
  obtain ⟨e1, e3⟩ := empty_no h1
  have c1 := hasPrefix_two s 44 64
  have c2 := hasPrefix_two s 35 40
  have c3 := hasPrefix_two s 35 92
  rw [show pre2 ((44 : UInt8).toNat) ((64 : UInt8).toNat) s.data.toList = false from hp1] at c1
  rw [show pre2 ((35 : UInt8).toNat) ((40 : UInt8).toNat) s.data.toList = false from hp2] at c2
  rw [show pre2 ((35 : UInt8).toNat) ((92 : UInt8).toNat) s.data.toList = false from hp3] at c3
  have d1 := Lib.hid c1
  have d2 := Lib.hid c2
  have d3 := Lib.hid c3
  have hwe := wordEnd_any s (by omega)
  have hq := LM.wln_le s.data.toList
  rw [size_len] at hq
  generalize LM.wln s.data.toList = q at *
  have hch := word_any (s.extract 0 q) (by simp; omega)
  rw [extract_take] at hch
  generalize LM.wrd (s.data.toList.take q) = T at *
  have hch' := Lib.hid hch
  have hwe' := Lib.hid hwe
  clear c1 c2 c3 hp1 hp2 hp3 hch hwe
  go_enter Tryz.func88, Tryz.ntmps88
  go_wp2_with (first
    | (go_at_call 39; (with_reducible refine (d1.out _).mono ?_); rintro e w' ⟨rfl, rfl⟩)
    | (go_at_call 39; (with_reducible refine (d2.out _).mono ?_); rintro e w' ⟨rfl, rfl⟩)
    | (go_at_call 39; (with_reducible refine (d3.out _).mono ?_); rintro e w' ⟨rfl, rfl⟩)
    | (go_at_call 100; refine (hwe'.out _).mono ?_; rintro e w' ⟨rfl, rfl⟩)
    | (go_at_call 99; refine (hch'.out _).mono ?_; rintro e w1 ⟨rfl, hb⟩; unfold tka; obtain ⟨hc, hf⟩ := bcell hb))
  exact bodyPost_ret (v := .tuple #[.agg #[.int .i64 T.k, .int .i64 T.n, .string ⟨T.s.toArray⟩, .int .i64 0, .int .i64 0, .int .i64 (T.len : Nat)], er T.e]) (by simp [results, Tryz.results88, go_sem, hc]) rfl ⟨rfl, below_six (below_new hb) (Nat.le_refl _) _ _ _ _ _ _⟩
end

theorem scan_any (s : ByteArray) (hs : s.size ≤ 281474976710656) (w : World) :
    Calls Tryz.prog 88 #[.string s] w fun e w' => e = .returned (tka (LM.scn s.data.toList)) ∧ Went w w' := by
  by_cases h1 : 1 ≤ s.size
  · have P1 := pre2_cons h1 44 64
    have P2 := pre2_cons h1 35 40
    have P3 := pre2_cons h1 35 92
    have hsz : LM.hd (s.data.toList.drop 1) ≠ -1 → 2 ≤ s.size := fun h => by
      rcases Nat.lt_or_ge 1 s.size with k | k
      · exact k
      · exact absurd (by rw [drop_end (by omega)]; rfl) h
    rw [scn_cons h1]
    generalize LM.hd (s.data.toList.drop 1) = y at *
    by_cases x44 : (s[0].toNat : Int) = 44
    · rw [if_pos x44]
      by_cases y64 : y = 64
      · rw [if_pos y64]
        exact scan_mark s h1 w _ _ _ rfl rfl rfl 7 2 (.inl ⟨by rw [P1, decide_eq_true x44, decide_eq_true y64]; rfl, rfl, rfl⟩)
      · rw [if_neg y64]
        exact scan_mark s h1 w _ _ _ rfl rfl rfl 6 1 (.inr (.inr ⟨by rw [P1, decide_eq_false y64, Bool.and_false], by rw [P2, decide_eq_false (by omega), Bool.false_and], by rw [P3, decide_eq_false (by omega), Bool.false_and], rfl, .inr (.inr (.inr (.inr ⟨x44, rfl⟩)))⟩))
    rw [if_neg x44]
    have q1 : pre2 44 64 s.data.toList = false := by rw [P1, decide_eq_false x44, Bool.false_and]
    by_cases g1 : (s[0].toNat : Int) = 35 ∧ y = 40
    · rw [if_pos g1]
      exact scan_mark s h1 w _ _ _ rfl rfl rfl 3 2 (.inr (.inl ⟨q1, by rw [P2, decide_eq_true g1.1, decide_eq_true g1.2]; rfl, rfl, rfl⟩))
    rw [if_neg g1]
    have q2 : pre2 35 40 s.data.toList = false := by
      rw [P2, ← Bool.decide_and, decide_eq_false g1]
    by_cases g2 : (s[0].toNat : Int) = 35 ∧ y = 92
    · rw [if_pos g2]
      exact scan_char s h1 w (hsz (by omega)) hs q1 q2 (by rw [P3, decide_eq_true g2.1, decide_eq_true g2.2]; rfl)
    rw [if_neg g2]
    have q3 : pre2 35 92 s.data.toList = false := by
      rw [P3, ← Bool.decide_and, decide_eq_false g2]
    by_cases x40 : (s[0].toNat : Int) = 40
    · rw [if_pos x40]
      exact scan_mark s h1 w _ _ _ rfl rfl rfl 1 1 (.inr (.inr ⟨q1, q2, q3, rfl, .inl ⟨x40, rfl⟩⟩))
    rw [if_neg x40]
    by_cases x41 : (s[0].toNat : Int) = 41
    · rw [if_pos x41]
      exact scan_mark s h1 w _ _ _ rfl rfl rfl 2 1 (.inr (.inr ⟨q1, q2, q3, rfl, .inr (.inl ⟨x41, rfl⟩)⟩))
    rw [if_neg x41]
    by_cases x39 : (s[0].toNat : Int) = 39
    · rw [if_pos x39]
      exact scan_mark s h1 w _ _ _ rfl rfl rfl 4 1 (.inr (.inr ⟨q1, q2, q3, rfl, .inr (.inr (.inl ⟨x39, rfl⟩))⟩))
    rw [if_neg x39]
    by_cases x96 : (s[0].toNat : Int) = 96
    · rw [if_pos x96]
      exact scan_mark s h1 w _ _ _ rfl rfl rfl 5 1 (.inr (.inr ⟨q1, q2, q3, rfl, .inr (.inr (.inr (.inl ⟨x96, rfl⟩)))⟩))
    rw [if_neg x96]
    by_cases x34 : (s[0].toNat : Int) = 34
    · rw [if_pos x34]
      exact scan_quote s h1 w hs q1 q2 q3 x34
    rw [if_neg x34]
    exact scan_word s h1 w hs q1 q2 q3 (by simpa using x40) (by simpa using x41) (by simpa using x39) (by simpa using x96) (by simpa using x44) (by simpa using x34)
  · obtain ⟨e1, e3, e4⟩ := empty_yes (s := s) (by omega)
    rw [e4, show LM.scn [] = LM.tok 14 0 [] 0 from rfl]
    clear e4
    go_enter Tryz.func88, Tryz.ntmps88
    go_wp2_with (go_at_call 96; refine (mark_at _ _ 0 rfl _).mono ?_; rintro e w1 ⟨rfl, hb⟩; obtain ⟨hc, hf⟩ := bcell hb)
    exact bodyPost_ret (v := .tuple #[.agg #[.int .i64 14, .int .i64 0, .string ⟨#[]⟩, .int .i64 0, .int .i64 0, .int .i64 0], .nilIface]) (by simp [results, Tryz.results88, go_sem, hc]) rfl ⟨rfl, below_six (below_new hb) (Nat.le_refl _) _ _ _ _ _ _⟩
end Go.Proofs.YtbomodendobnkaaGreat
