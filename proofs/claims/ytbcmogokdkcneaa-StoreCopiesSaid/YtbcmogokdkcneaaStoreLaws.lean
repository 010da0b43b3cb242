/- The laws of layer 3 that have no slice among their arguments: on a store that is none, and on one write. -/
import Derived.Test.YtbcmogokdkcneaaStoreAwake
import Derived.LoopTactic
import Derived.Outline
namespace Go.Proofs.Ytbcmogokdkcneaa
open Go.ChangeShapes Go.WideShapes Go.ChangeAt Go.RowKit

set_option maxHeartbeats 400000 in
theorem storeNil_walk (i v : Int) (w : World) :
    Calls Try.prog 5 #[.int .i64 i, .int .u64 v] w fun e w' => e = .returned (.bool true) ∧ Below w.heap.size w w' := by
  have k1 := kind_yes 1 (by omega) (by omega)
  have K1 := fun w => Lib.hid (k1 w)
  have g := fun w => Lib.hid (get_nil i w)
  have s := fun w => Lib.hid (set_nil i v w)
  simp only [er_yes (show (1 : Int) ≠ 0 by omega)] at g s
  clear k1
  go_enter Try.func5, Try.ntmps5
  go_wp2_with (first
    | (go_at_call 11
       refine (g _).out.mono ?_
       rintro e w' ⟨rfl, rfl⟩)
    | (go_at_call 8
       refine (awake_any _).mono ?_
       rintro e w1 ⟨rfl, hw1⟩)
    | (go_at_call 13
       refine (s _).out.mono ?_
       rintro e w' ⟨rfl, rfl⟩
       have tok := True.intro)
    | (go_at_call 10
       have _t := tok
       refine (K1 _).out.mono ?_
       rintro e w3 ⟨rfl, hw3⟩)
    | (go_at_call 10
       refine (K1 _).out.mono ?_
       rintro e w2 ⟨rfl, hw2⟩)
    | (go_at_call 17
       refine (size_nil _).mono ?_
       rintro e w' ⟨rfl, rfl⟩)
    | (go_at_call 16
       refine (count_nil _).mono ?_
       rintro e w' ⟨rfl, rfl⟩)
    | (go_at_call 15
       refine (copy_nil _).mono ?_
       rintro e w' ⟨rfl, rfl⟩))
  go_ret
  exact ⟨rfl, (hw1.trans (hw2.mono hw1.size)).trans (hw3.mono (Nat.le_trans hw1.size hw2.size))⟩

/-- m words of which the first k are v and what follows it, the others nought -/
def words (m : Nat) (v : Int) (k : Nat) : List Int := (List.range m).map fun j => if j < k then IntKind.u64.wrap (v + j) else 0
theorem words_length (m : Nat) (v : Int) (k : Nat) : (words m v k).length = m := by simp [words]
theorem words_zero (m : Nat) (v : Int) : words m v 0 = List.replicate m 0 := by
  apply List.ext_getElem
  · simp [words]
  · intro j h1 h2
    simp [words]
theorem words_succ (m : Nat) (v : Int) (k : Nat) : (words m v k).set k (IntKind.u64.wrap (v + k)) = words m v (k + 1) := by
  apply List.ext_getElem
  · simp [words]
  · intro j h1 h2
    rw [List.getElem_set]
    simp only [words, List.getElem_map, List.getElem_range]
    by_cases hjk : k = j
    · subst hjk
      simp
    · rw [if_neg hjk]
      by_cases hlt : j < k
      · rw [if_pos hlt, if_pos (by omega)]
      · rw [if_neg hlt, if_neg (by omega)]
theorem inside_nat {m k : Nat} (h : k < m) : inside m k = true := by simp [inside]; omega
theorem gv_nat {xs : List Int} {k : Nat} (h : k < xs.length) : gv xs k = xs.getD k 0 := by
  rw [gv, if_pos (inside_nat h), Int.toNat_natCast]
theorem sv_nat {xs : List Int} {k : Nat} (h : k < xs.length) (u : Int) : sv xs k u = xs.set k u := by
  rw [sv, if_pos (inside_nat h), Int.toNat_natCast]
theorem gk_nat {m k : Nat} (h : k < m) : gk m k = 0 := by rw [gk, if_pos (inside_nat h)]
theorem hit_nat {m k : Nat} (h : k < m) : hit m k = 1 := by rw [hit, if_pos (inside_nat h)]

theorem set_words (p b m k : Nat) (v : Int) (w : World) (hk : k < m) (hm : m ≤ 1048576) (hs : St 56 w p b (words m v k) k) :
    Calls Try.prog 13 #[.pointer (some ⟨p, 0, none⟩), .int .i64 k, .int .u64 (IntKind.u64.wrap (v + k))] w fun e w' =>
      e = .returned .nilIface ∧ St 56 w' p b (words m v (k + 1)) ((k + 1 : Nat) : Int) ∧ Turns (fun k => k = p ∨ k = b) w w' := by
  have H := set_any p b (words m v k) k k (IntKind.u64.wrap (v + k)) w hs (by omega) (by omega)
  rw [words_length, gk_nat hk, hit_nat hk, sv_nat (by rw [words_length]; exact hk), words_succ, er_no] at H
  exact H

theorem sv_words (m k : Nat) (v i x : Int) (hk : k < m) : gv (sv (words m v m) i x) k = if (k : Int) = i then x else IntKind.u64.wrap (v + k) := by
  rw [gv_nat (by rw [sv_length, words_length]; exact hk)]
  have hw : (words m v m).getD k 0 = IntKind.u64.wrap (v + k) := by simp [words, hk]
  unfold sv
  rw [words_length]
  cases hi : inside m i
  · rw [if_neg (by simp), hw, if_neg (by have := inside_no hi; omega)]
  · obtain ⟨h0, h1⟩ := inside_yes hi
    obtain ⟨q, rfl⟩ := Int.eq_ofNat_of_zero_le h0
    rw [if_pos rfl, Int.toNat_natCast]
    by_cases hkq : k = q
    · subst hkq
      simp [words_length, hk]
    · rw [if_neg (by omega), ← hw]
      simp [List.getD_eq_getElem?_getD, Ne.symm hkq]

theorem get_words (p b m k : Nat) (v i x c : Int) (w : World) (hk : k < m) (hs : St 56 w p b (sv (words m v m) i x) c) (hc0 : 0 ≤ c) (hc1 : c ≤ 4611686018427387904) :
    Calls Try.prog 11 #[.pointer (some ⟨p, 0, none⟩), .int .i64 k] w fun e w' =>
      e = .returned (.tuple #[.int .u64 (if (k : Int) = i then x else IntKind.u64.wrap (v + k)), .nilIface]) ∧ St 56 w' p b (sv (words m v m) i x) (c + 1) ∧ Turns (· = p) w w' := by
  have H := get_any p b (sv (words m v m) i x) c k w hs hc0 hc1
  rw [sv_words m k v i x hk, sv_length, words_length, gk_nat hk, hit_nat hk, er_no] at H
  exact H

set_option maxHeartbeats 400000 in
theorem storeOne_walk (n i v x : Int) (w : World) :
    Calls Try.prog 4 #[.int .i64 n, .int .i64 i, .int .u64 v, .int .u64 x] w fun e w' => e = .returned (.bool true) ∧ Below w.heap.size w w' := by
  obtain ⟨m, hm, hlt⟩ : ∃ m : Nat, wrap64 ((IntKind.u64.wrap n).tmod 500) = m ∧ m < 500 := by
    have h0 : 0 ≤ IntKind.u64.wrap n := by rw [IntKind.wrap_u64]; omega
    rw [Int.tmod_eq_emod_of_nonneg h0]
    refine ⟨((IntKind.u64.wrap n) % 500).toNat, ?_, by omega⟩
    rw [IntWalk.wrap64_in _ ⟨by omega, by omega⟩]
    omega
  have HM := Lib.hid hm
  clear hm
  go_enter Try.func4, Try.ntmps4
  go_wp2_with fail
  rw [HM.out]
  refine (new_yes m (by omega) _).mono ?_
  rintro e w1 ⟨_, rfl, p, b, rfl, hs1, hp, hb, hw1⟩
  rw [← words_zero m v] at hs1
  go_wp2_with fail
  go_loopw [26] (fun k wr => ∃ j : Nat, j ≤ m ∧ k = .int .i64 j ∧ St 56 wr p b (words m v j) j ∧ Below w.heap.size w wr) (fun k _ => m - (intOf k).toNat)
  case atStart => exact ⟨0, by omega, rfl, hs1, hw1⟩
  case round =>
    obtain ⟨j, hj, rfl, hs, hw⟩ := hrel
    by_cases hjm : j < m
    · go_wp2_with (
        go_at_call 13
        refine (set_words p b m j v _ hjm (by omega) hs).mono ?_
        rintro e w2 ⟨rfl, hs2, ht2⟩)
      go_roundw
      case rel => exact ⟨j + 1, by omega, by go_num, hs2, hw.trans (ht2.below hw.size (fun i hi => by omega))⟩
      case measure => simp [intOf]; omega
    · obtain rfl : j = m := by omega
      have S := Lib.hid (set_any p b (words j v j) j i x _ hs (by omega) (by omega))
      rw [words_length] at S
      have hh := hit_bd j i
      cases hi : inside j i
      all_goals
        first
          | rw [gk, hi, if_pos rfl, er_no] at S
          | rw [gk, hi, if_neg (by simp), er_yes (by omega)] at S
        first
          | obtain ⟨hi0, hi1⟩ := inside_yes hi
          | have hi0 := inside_no hi
        clear hi
        generalize hit j i = h at *
        go_wp2_with (first
          | (go_at_call 13
             refine S.out.mono ?_
             rintro e w2 ⟨rfl, hs2, ht2⟩)
          | (go_at_call 8
             refine (awake_any _).mono ?_
             rintro e w3 ⟨rfl, hw3⟩))
        all_goals
          have hs3 := hs2.turns (Turns.of_below hw3 (fun _ => False)) (fun h => h) (fun h => h)
          have hb3 := (hw.trans (ht2.below hw.size (fun i hi => by omega))).trans (hw3.mono (Nat.le_trans hw.size ht2.size))
          go_loopw [56] (fun k wr => ∃ q : Nat, q ≤ j ∧ k = .int .i64 q ∧ St 56 wr p b (sv (words j v j) i x) (j + h + q) ∧ Below w.heap.size w wr) (fun k _ => j - (intOf k).toNat)
          case atStart => exact ⟨0, by omega, rfl, by simpa using hs3, hb3⟩
          case round =>
            obtain ⟨q, hq, rfl, hs4, hb4⟩ := hrel
            by_cases hqj : q < j
            · have G := get_words p b j q v i x _ _ hqj hs4 (by omega) (by omega)
              by_cases hqi : (q : Int) = i
              · rw [if_pos hqi] at G
                have e1 : ((q : Int) == i) = true := by simpa using hqi
                have e2 : ((q : Int) != i) = false := by simpa using hqi
                have GG := Lib.hid G
                clear G hqi
                go_wp2_with (
                  go_at_call 11
                  refine GG.out.mono ?_
                  rintro e w5 ⟨rfl, hs5, ht5⟩)
                go_roundw
                case rel => exact ⟨q + 1, by omega, by go_num, by simpa [Int.add_assoc] using hs5, hb4.trans (ht5.below hb4.size (fun i hi => by omega))⟩
                case measure => simp [intOf]; omega
              · rw [if_neg hqi] at G
                have e1 : ((q : Int) == i) = false := by simpa using hqi
                have e2 : ((q : Int) != i) = true := by simpa using hqi
                have GG := Lib.hid G
                clear G hqi
                go_wp2_with (
                  go_at_call 11
                  refine GG.out.mono ?_
                  rintro e w5 ⟨rfl, hs5, ht5⟩)
                go_roundw
                case rel => exact ⟨q + 1, by omega, by go_num, by simpa [Int.add_assoc] using hs5, hb4.trans (ht5.below hb4.size (fun i hi => by omega))⟩
                case measure => simp [intOf]; omega
            · obtain rfl : q = j := by omega
              go_wp2_with fail
              go_ret
              exact ⟨rfl, hb4⟩
end Go.Proofs.Ytbcmogokdkcneaa
