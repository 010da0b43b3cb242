/- What package lex gives of a word: may it be a name, which token is it. -/
import Derived.Test.YtpiekdcbjkgipaaQ15
import Derived.Test.YtpiekdcbjkgipaaQ3
import Derived.Deep.RegionHeld3
import Derived.Deep.RegionWith
import Derived.Deep.CutRange
namespace Go.Proofs.Ytpiekdcbjkgipaa
open Go.ChangeShapes Go.WideShapes Go.ChangeAt Go.RowKit

/-- errors.Is(nil, k) -/
theorem is_nil (b : Int) (w : World) :
    Calls Try.prog 8 #[.nilIface, .iface 42 (.int .i64 b)] w fun e w' => e = .returned (.bool false) ∧ w = w' := by
  have hx : ∀ (v : Value) (w : World), (binOp .eql 34 .nilIface (.iface 42 v)).run Try.prog w = .ok (.bool false) w := fun v w => run_eql_iface_nil_left w 42 v Try.underlying34
  go_enter Try.func8, Try.ntmps8
  go_wp2
  go_ret
  exact ⟨rfl, rfl⟩

theorem parse_kind (l : List UInt8) : (FM.okd (FM.body l) = false ∧ FM.parse l = (0, 6)) ∨ (FM.okd (FM.body l) = true ∧ ((∃ n, FM.parse l = (n, 0)) ∨ FM.parse l = (0, 11))) := by
  unfold FM.parse
  cases FM.okd (FM.body l) with
  | false => exact .inl ⟨rfl, rfl⟩
  | true =>
    refine .inr ⟨rfl, ?_⟩
    rw [if_pos rfl]
    unfold FM.bd
    split
    · exact .inl ⟨_, rfl⟩
    · exact .inr rfl

theorem all_go {s : ByteArray} {k : Nat} (h : k < s.size) (H : (s.data.toList.take k).all (fun c => LM.nmb c.toNat) = true) (hd : LM.nmb (s[k].toNat : Int) = true) : (s.data.toList.take (k + 1)).all (fun c => LM.nmb c.toNat) = true := by
  rw [FM.take_snoc s k h, List.all_append, H]; simp [hd]
theorem all_stop {s : ByteArray} {k : Nat} (h : k < s.size) (hd : LM.nmb (s[k].toNat : Int) = false) : s.data.toList.all (fun c => LM.nmb c.toNat) = false := by
  rw [List.all_eq_false]
  exact ⟨s[k], Array.mem_toList_iff.2 (Array.getElem_mem (xs := s.data) h), by simp [hd]⟩
theorem all_end {s : ByteArray} {k : Nat} (h : s.size ≤ k) (H : (s.data.toList.take k).all (fun c => LM.nmb c.toNat) = true) : s.data.toList.all (fun c => LM.nmb c.toNat) = true := by
  rwa [List.take_of_length_le (by rw [size_len]; exact h)] at H

theorem sym_short {s : ByteArray} (h : s.size < 1 ∨ 60 < s.size ∨ s.data.toList = [46]) : LM.sym s.data.toList = false := by
  unfold LM.sym
  rw [size_len, decide_eq_false, Bool.false_and]
  rintro ⟨h1, h2, h3⟩
  rcases h with h | h | h
  · omega
  · omega
  · exact h3 h
theorem sym_of {s : ByteArray} (h1 : 1 ≤ s.size) (h2 : s.size ≤ 60) (h3 : s.data.toList ≠ [46]) : LM.sym s.data.toList = (s.data.toList.all (fun c => LM.nmb c.toNat) && !FM.okd (FM.body s.data.toList)) := by
  unfold LM.sym
  rw [size_len, decide_eq_true ⟨h1, h2, h3⟩, Bool.true_and]

theorem Symbol_any (s : ByteArray) (hs : s.size ≤ 9223372036854775807) (w : World) :
    Calls Try.prog 46 #[.string s] w fun e w' => e = .returned (.bool (LM.sym s.data.toList)) ∧ w = w' := by
  by_cases h1 : 1 ≤ s.size
  · obtain ⟨e1, e3⟩ := empty_no h1
    by_cases h2 : 60 < s.size
    · rw [sym_short (.inr (.inl h2))]
      go_enter Try.func46, Try.ntmps46
      go_wp2
      go_ret
      exact ⟨rfl, rfl⟩
    · by_cases h3 : s.data.toList = [46]
      · rw [sym_short (.inr (.inr h3))]
        obtain rfl := lst_yes h3
        clear h1 h2 h3 e1 e3 hs
        go_enter Try.func46, Try.ntmps46
        go_wp2
        go_ret
        exact ⟨rfl, rfl⟩
      · rw [sym_of h1 (by omega) h3]
        have f3 := lst_no (s := s) (l := [46]) h3
        clear h3
        have hp := parse_any s hs
        go_enter Try.func46, Try.ntmps46
        go_wp2
        go_loop [19] (fun i => ∃ k : Nat, k ≤ s.size ∧ i = .int .i64 k ∧ Hid ((s.data.toList.take k).all (fun c => LM.nmb c.toNat) = true)) (fun i => s.size - (intOf i).toNat)
        case atStart => exact ⟨0, Nat.zero_le _, rfl, by simp [Hid]⟩
        case round =>
          obtain ⟨k, hk, rfl, hd⟩ := hrel
          by_cases hlt : k < s.size
          · cases hq : LM.nmb (s[k].toNat : Int)
            · have hn := Lib.hid (all_stop hlt hq)
              have hq' := Lib.hid hq
              clear hq hp
              go_wp2_with (go_at_call 62; refine (isNameByte_any _ _).mono ?_; rintro e w' ⟨rfl, rfl⟩; rw [hq'.out])
              go_ret
              exact ⟨ret_b (by rw [hn.out]; rfl), rfl⟩
            · have hn := Lib.hid (all_go hlt hd.out hq)
              have hq' := Lib.hid hq
              clear hq hp
              go_wp2_with (go_at_call 62; refine (isNameByte_any _ _).mono ?_; rintro e w' ⟨rfl, rfl⟩; rw [hq'.out])
              go_round
              case rel => exact ⟨k + 1, by omega, by go_num, hn⟩
              case measure => simp [intOf]; omega
          · have hn := Lib.hid (all_end (by omega) hd.out)
            rcases parse_kind s.data.toList with ⟨ho, he⟩ | ⟨ho, ⟨n, he⟩ | he⟩
            · rw [he, ans_no _ _ (by omega)] at hp
              have hp' := Lib.hid hp
              have ho' := Lib.hid ho
              clear hp he ho
              go_wp2_with (first
                | (go_at_call 63; refine (hp'.out _).mono ?_; rintro e w' ⟨rfl, rfl⟩)
                | (go_at_call 8; refine (is_same _ _).mono ?_; rintro e w' ⟨rfl, rfl⟩))
              go_ret
              exact ⟨ret_b (by rw [hn.out, ho'.out]; rfl), rfl⟩
            · rw [he, ans_yes] at hp
              have hp' := Lib.hid hp
              have ho' := Lib.hid ho
              clear hp he ho
              go_wp2_with (first
                | (go_at_call 63; refine (hp'.out _).mono ?_; rintro e w' ⟨rfl, rfl⟩)
                | (go_at_call 8; refine (is_nil _ _).mono ?_; rintro e w' ⟨rfl, rfl⟩))
              go_ret
              exact ⟨ret_b (by rw [hn.out, ho'.out]; rfl), rfl⟩
            · rw [he, ans_no _ _ (by omega)] at hp
              have hp' := Lib.hid hp
              have ho' := Lib.hid ho
              clear hp he ho
              go_wp2_with (first
                | (go_at_call 63; refine (hp'.out _).mono ?_; rintro e w' ⟨rfl, rfl⟩)
                | (go_at_call 8; refine (is_other _ _ (by rfl) _).mono ?_; rintro e w' ⟨rfl, rfl⟩))
              go_ret
              exact ⟨ret_b (by rw [hn.out, ho'.out]; rfl), rfl⟩
  · obtain ⟨e1, e3, e4⟩ := empty_yes (s := s) (by omega)
    rw [sym_short (.inl (by omega))]
    clear e4
    go_enter Try.func46, Try.ntmps46
    go_wp2
    go_ret
    exact ⟨rfl, rfl⟩

theorem bcell {W w1 : World} (hb : Below W.heap.size W w1) : (∀ b o, b < W.heap.size → w1.cell? ⟨b, o, none⟩ = W.cell? ⟨b, o, none⟩) ∧ (∀ b o, b < W.heap.size → w1.frozen? ⟨b, o, none⟩ = W.frozen? ⟨b, o, none⟩) :=
  ⟨fun b o h => hb.cell (p := ⟨b, o, none⟩) h, fun b o h => hb.frozen (p := ⟨b, o, none⟩) h⟩

theorem below_new {w w1 : World} {o : Obj} (hb : Below (w.alloc o).heap.size (w.alloc o) w1) : Below w.heap.size w w1 :=
  ((Below.refl _ w).alloc (Nat.le_refl _) o).trans (hb.mono (by simp))
/-- six cells of a new block -/
theorem below_six {B g : Nat} {a w : World} (h : Below B a w) (hg : B ≤ g) (v0 v1 v2 v3 v4 v5 : Value) :
    Below B a ((((((w.setCell ⟨g, 0, none⟩ v0).setCell ⟨g, 1, none⟩ v1).setCell ⟨g, 2, none⟩ v2).setCell ⟨g, 3, none⟩ v3).setCell ⟨g, 4, none⟩ v4).setCell ⟨g, 5, none⟩ v5) :=
  (((((h.setCell hg v0).setCell hg v1).setCell hg v2).setCell hg v3).setCell hg v4).setCell hg v5

theorem tka_ret {T U : LM.Tk} (h : T = U) {v : Value} (hv : v = tka T) : Ending.returned v = .returned (tka U) := by rw [hv, h]
end Go.Proofs.Ytpiekdcbjkgipaa

/- What package lex gives of a character, a string, and what stands anywhere. -/
namespace Go.Proofs.Ytpiekdcbjkgipaa
open Go.ChangeShapes Go.WideShapes Go.ChangeAt Go.RowKit

theorem extract_drop (s : ByteArray) (k : Nat) : (s.extract k s.size).data.toList = s.data.toList.drop k := Lib.extract_to_end s k
theorem extract_take (s : ByteArray) (k : Nat) : (s.extract 0 k).data.toList = s.data.toList.take k := by simp
theorem chr_cons {s t : ByteArray} {q : Nat} (ht : t.data.toList = s.data.toList.drop 2) (h0 : 1 ≤ t.size) (hq : LM.wln (t.extract 1 t.size).data.toList = q) :
    1 + q ≤ t.size ∧ LM.chr (s.data.toList.drop 2) = if LM.cho (t.extract 0 (1 + q)).data.toList = -1 then LM.bad 6 else LM.tok 11 (LM.cho (t.extract 0 (1 + q)).data.toList) [] (3 + q) := by
  rw [extract_drop] at hq
  have hl := LM.wln_le (t.data.toList.drop 1)
  rw [hq, List.length_drop, size_len] at hl
  refine ⟨by omega, ?_⟩
  rw [extract_take, ← ht, cons_of (s := t) (by omega), LM.chr, hq]
  rw [Nat.add_comm 1 q, List.take_succ_cons]

end Go.Proofs.Ytpiekdcbjkgipaa

/- What package lex gives of a string within its marks. -/
namespace Go.Proofs.Ytpiekdcbjkgipaa
open Go.ChangeShapes Go.WideShapes Go.ChangeAt Go.RowKit

theorem qt_mark {s : ByteArray} {k : Nat} {acc : List UInt8} {R : Int × List UInt8 × Nat} (h : k < s.size) (hc : s[k] = 34) (H : LM.qt (s.data.toList.drop k) acc k = R) : R = (0, acc, k + 1) := by
  rw [drop_cons h, LM.qt.eq_def] at H
  simp only at H
  rw [if_pos hc] at H; exact H.symm
theorem qt_plain {s : ByteArray} {k : Nat} {acc : List UInt8} {R : Int × List UInt8 × Nat} (h : k < s.size) (h1 : s[k] ≠ 34) (h2 : s[k] ≠ 92) (H : LM.qt (s.data.toList.drop k) acc k = R) :
    LM.qt (s.data.toList.drop (k + 1)) (acc ++ [s[k]]) (k + 1) = R := by
  rw [drop_cons h, LM.qt.eq_def] at H
  simp only at H
  rw [if_neg h1, if_neg h2] at H; exact H
theorem qt_end {s : ByteArray} {k : Nat} {acc : List UInt8} {R : Int × List UInt8 × Nat} (h : s.size ≤ k) (H : LM.qt (s.data.toList.drop k) acc k = R) : R = (5, [], 0) := by
  rw [drop_end h, LM.qt.eq_def] at H; exact H.symm
theorem qt_cut {s : ByteArray} {k : Nat} {acc : List UInt8} {R : Int × List UInt8 × Nat} (h : k < s.size) (h2 : s[k] = 92) (h3 : k + 1 = s.size) (H : LM.qt (s.data.toList.drop k) acc k = R) : R = (5, [], 0) := by
  rw [drop_cons h, LM.qt.eq_def] at H
  simp only at H
  rw [if_neg (by rw [h2]; decide), if_pos h2, drop_end (by omega)] at H; exact H.symm
theorem qt_bad {s : ByteArray} {k : Nat} {acc : List UInt8} {R : Int × List UInt8 × Nat} (h : k < s.size) (h2 : s[k] = 92) (h3 : k + 1 < s.size) (he : LM.esc s[k + 1] = none) (H : LM.qt (s.data.toList.drop k) acc k = R) : R = (6, [], 0) := by
  rw [drop_cons h, LM.qt.eq_def] at H
  simp only at H
  rw [if_neg (by rw [h2]; decide), if_pos h2, drop_cons h3] at H
  simp only [he] at H
  exact H.symm
theorem qt_stroke {s : ByteArray} {k : Nat} {acc : List UInt8} {R : Int × List UInt8 × Nat} {x : UInt8} (h : k < s.size) (h2 : s[k] = 92) (h3 : k + 1 < s.size) (he : LM.esc s[k + 1] = some x) (H : LM.qt (s.data.toList.drop k) acc k = R) :
    LM.qt (s.data.toList.drop (k + 2)) (acc ++ [x]) (k + 2) = R := by
  rw [drop_cons h, LM.qt.eq_def] at H
  simp only at H
  rw [if_neg (by rw [h2]; decide), if_pos h2, drop_cons h3] at H
  simp only [he] at H
  exact H
theorem cap_more {acc : List UInt8} (x : UInt8) (h : (acc.take 501).length ≤ 500) : (acc ++ [x]).take 501 = acc.take 501 ++ [x] := by
  rw [List.length_take] at h
  rw [List.take_of_length_le (l := acc ++ [x]) (by simp; omega), List.take_of_length_le (l := acc) (by omega)]
theorem cap_full {acc : List UInt8} (x : UInt8) (h : ¬ (acc.take 501).length ≤ 500) : (acc ++ [x]).take 501 = acc.take 501 := by
  rw [List.length_take] at h
  rw [List.take_append_of_le_length (by omega)]
theorem cap_done (acc : List UInt8) (n : Nat) : (if 500 < (acc.take 501).length then LM.bad 14 else LM.tok 12 0 (acc.take 501) n) = LM.ofq (0, acc, n) := by
  show _ = if (0 : Int) ≠ 0 then LM.bad 0 else if 500 < acc.length then LM.bad 14 else LM.tok 12 0 acc n
  rw [if_neg (c := (0 : Int) ≠ 0) (by simp)]
  by_cases h : 500 < acc.length
  · rw [if_pos (by rw [List.length_take]; omega), if_pos h]
  · rw [if_neg (by rw [List.length_take]; omega), if_neg h, List.take_of_length_le (by omega)]
theorem byte_eq {c : UInt8} {n : Nat} (hn : n < 256) (h : c = UInt8.ofNat n) : ((c.toNat : Int) == (n : Int)) = true := by
  subst h; simp; omega
theorem byte_ne {c : UInt8} {n : Nat} (hn : n < 256) (h : c ≠ UInt8.ofNat n) : ((c.toNat : Int) == (n : Int)) = false := by
  simp only [beq_eq_false_iff_ne, ne_eq]
  intro e; apply h; apply UInt8.toNat_inj.1; simp; omega

end Go.Proofs.Ytpiekdcbjkgipaa

/- What package lex gives of a text's token at any place. -/
namespace Go.Proofs.Ytpiekdcbjkgipaa
open Go.ChangeShapes Go.WideShapes Go.ChangeAt Go.RowKit

theorem scn_cons {s : ByteArray} (h : 1 ≤ s.size) : LM.scn s.data.toList =
    if (s[0].toNat : Int) = 44 then (if LM.hd (s.data.toList.drop 1) = 64 then LM.tok 7 0 [] 2 else LM.tok 6 0 [] 1)
    else if (s[0].toNat : Int) = 35 ∧ LM.hd (s.data.toList.drop 1) = 40 then LM.tok 3 0 [] 2
    else if (s[0].toNat : Int) = 35 ∧ LM.hd (s.data.toList.drop 1) = 92 then LM.chr (s.data.toList.drop 2)
    else if (s[0].toNat : Int) = 40 then LM.tok 1 0 [] 1
    else if (s[0].toNat : Int) = 41 then LM.tok 2 0 [] 1
    else if (s[0].toNat : Int) = 39 then LM.tok 4 0 [] 1
    else if (s[0].toNat : Int) = 96 then LM.tok 5 0 [] 1
    else if (s[0].toNat : Int) = 34 then LM.ofq (LM.qt (s.data.toList.drop 1) [] 1)
    else LM.wrd (s.data.toList.take (LM.wln s.data.toList)) := by
  have e := cons_of (s := s) (by omega)
  have e2 : s.data.toList.drop 2 = (s.data.toList.drop 1).drop 1 := by rw [List.drop_drop]
  rw [e2]
  generalize s.data.toList.drop 1 = r at e ⊢
  rw [e, LM.scn]
theorem pre2_cons {s : ByteArray} (h : 1 ≤ s.size) (a b : Int) : pre2 a b s.data.toList = (decide ((s[0].toNat : Int) = a) && decide (LM.hd (s.data.toList.drop 1) = b)) := by
  have e := cons_of (s := s) (by omega)
  generalize s.data.toList.drop 1 = r at e ⊢
  rw [e, pre2]

section
variable (s : ByteArray) (h1 : 1 ≤ s.size) (w : World)
include h1
end

end Go.Proofs.Ytpiekdcbjkgipaa

/- What package lex gives of places, and the next token with its place. -/
namespace Go.Proofs.Ytpiekdcbjkgipaa
open Go.ChangeShapes Go.WideShapes Go.ChangeAt Go.RowKit

/-- the bytes from a place on, so many -/
def seg (s : ByteArray) (a n : Nat) : List UInt8 := (s.data.toList.drop a).take n
theorem seg_cons {s : ByteArray} {a n j : Nat} (h : j < n) (hk : a + n ≤ s.size) : (seg s a n).drop j = (s[a + j]'(by omega)) :: (seg s a n).drop (j + 1) := by
  have hl : j < (seg s a n).length := by unfold seg; rw [List.length_take, List.length_drop, size_len]; omega
  rw [List.drop_eq_getElem_cons hl]
  congr 1
  have e : (seg s a n)[j]? = some (s[a + j]'(by omega)) := by
    unfold seg
    rw [List.getElem?_take, if_pos h, List.getElem?_drop, List.getElem?_eq_getElem (by rw [size_len]; omega)]; rfl
  rw [List.getElem?_eq_getElem hl] at e
  exact Option.some.inj e
theorem seg_len {s : ByteArray} {a n : Nat} (hk : a + n ≤ s.size) : (seg s a n).length = n := by unfold seg; rw [List.length_take, List.length_drop, size_len]; omega
theorem mv_nl {s : ByteArray} {a n m : Nat} {l c : Int} {R : Int × Int} (h0 : a ≤ m) (h : m < a + n) (hm : m < s.size) (hk : a + n ≤ s.size) (H : LM.mv ((seg s a n).drop (m - a)) l c = R) (hx : (s[m].toNat : Int) = 10) : LM.mv ((seg s a n).drop (m + 1 - a)) (l + 1) 1 = R := by
  obtain ⟨j, rfl⟩ : ∃ j, m = a + j := ⟨m - a, by omega⟩
  rw [show a + j - a = j by omega, seg_cons (by omega) hk, LM.mv, if_pos hx] at H
  rw [show a + j + 1 - a = j + 1 by omega]; exact H
theorem mv_pl {s : ByteArray} {a n m : Nat} {l c : Int} {R : Int × Int} (h0 : a ≤ m) (h : m < a + n) (hm : m < s.size) (hk : a + n ≤ s.size) (H : LM.mv ((seg s a n).drop (m - a)) l c = R) (hx : ¬ (s[m].toNat : Int) = 10) : LM.mv ((seg s a n).drop (m + 1 - a)) l (c + 1) = R := by
  obtain ⟨j, rfl⟩ : ∃ j, m = a + j := ⟨m - a, by omega⟩
  rw [show a + j - a = j by omega, seg_cons (by omega) hk, LM.mv, if_neg hx] at H
  rw [show a + j + 1 - a = j + 1 by omega]; exact H
theorem mv_stop {s : ByteArray} {a n m : Nat} {l c : Int} {R : Int × Int} (h : a + n ≤ m) (hk : a + n ≤ s.size) (H : LM.mv ((seg s a n).drop (m - a)) l c = R) : R = (l, c) := by
  rw [List.drop_of_length_le (by rw [seg_len hk]; omega), LM.mv] at H; exact H.symm

def zero6 : List Value := [.int .i64 0, .int .i64 0, .string ⟨#[]⟩, .int .i64 0, .int .i64 0, .int .i64 0]
/-- the second of two new blocks -/
theorem lies_made2 (w : World) (o : Obj) (t : TypeId) (cs : Array Value) : Lies ((w.alloc o).alloc (.cells cs t)) (w.heap.size + 1) t cs.toList := by
  have := Lies.made (w.alloc o) t cs
  rwa [show (w.alloc o).heap.size = w.heap.size + 1 by simp] at this
theorem below_new2 {w w1 : World} {o o' : Obj} (h : Below ((w.alloc o).alloc o').drew.heap.size ((w.alloc o).alloc o').drew w1) : Below w.heap.size w w1 :=
  (((Below.refl _ w).alloc (Nat.le_refl _) o).alloc (by simp) o').trans (below_of_drew (h.mono (by simp; omega)))
end Go.Proofs.Ytpiekdcbjkgipaa
