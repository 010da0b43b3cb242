/- The law of layer 3 on counts. -/
import Derived.Test.YtbcmogokdkcneaaStoreLaws
import Derived.Test.YtbcmogokdkcneaaLaw
namespace Go.Proofs.Ytbcmogokdkcneaa
open Go.ChangeShapes Go.WideShapes Go.ChangeAt Go.RowKit

theorem small_mod (n q : Int) (h0 : 0 < q) (h1 : q ≤ 1048576) : ∃ m : Nat, wrap64 ((IntKind.u64.wrap n).tmod q) = m ∧ (m : Int) < q := by
  have hn : 0 ≤ IntKind.u64.wrap n := by rw [IntKind.wrap_u64]; omega
  rw [Int.tmod_eq_emod_of_nonneg hn]
  have a := Int.emod_nonneg (IntKind.u64.wrap n) (show q ≠ 0 by omega)
  have b := Int.emod_lt_of_pos (IntKind.u64.wrap n) h0
  refine ⟨((IntKind.u64.wrap n) % q).toNat, ?_, by omega⟩
  rw [IntWalk.wrap64_in _ ⟨by omega, by omega⟩]
  omega

/-- one read, where the place is within the words, and where it isn't -/
theorem get_in (p b : Nat) (xs : List Int) (c i : Int) (m : Nat) (w : World) (hm : xs.length = m) (hi : inside m i = true) (hs : St 56 w p b xs c) (hc0 : 0 ≤ c) (hc1 : c ≤ 4611686018427387904) :
    Calls Try.prog 11 #[.pointer (some ⟨p, 0, none⟩), .int .i64 i] w fun e w' =>
      e = .returned (.tuple #[.int .u64 (gv xs i), .nilIface]) ∧ St 56 w' p b xs (c + 1) ∧ Turns (· = p) w w' := by
  have H := get_any p b xs c i w hs hc0 hc1
  rw [hm, gk, hit, if_pos hi, if_pos hi, er_no] at H
  exact H
theorem get_out (p b : Nat) (xs : List Int) (c i : Int) (m : Nat) (w : World) (hm : xs.length = m) (hi : inside m i = false) (hs : St 56 w p b xs c) (hc0 : 0 ≤ c) (hc1 : c ≤ 4611686018427387904) :
    Calls Try.prog 11 #[.pointer (some ⟨p, 0, none⟩), .int .i64 i] w fun e w' =>
      e = .returned (.tuple #[.int .u64 0, .iface 54 (.int .i64 3)]) ∧ St 56 w' p b xs c ∧ Turns (· = p) w w' := by
  have H := get_any p b xs c i w hs hc0 hc1
  rw [gv, hm, gk, hit, hi, if_neg (by simp), if_neg (by simp), if_neg (by simp), er_yes (by omega), Int.add_zero] at H
  exact H
theorem set_in (p b : Nat) (xs : List Int) (c i v : Int) (m : Nat) (w : World) (hm : xs.length = m) (hi : inside m i = true) (hs : St 56 w p b xs c) (hc0 : 0 ≤ c) (hc1 : c ≤ 4611686018427387904) :
    Calls Try.prog 13 #[.pointer (some ⟨p, 0, none⟩), .int .i64 i, .int .u64 v] w fun e w' =>
      e = .returned .nilIface ∧ St 56 w' p b (sv xs i v) (c + 1) ∧ Turns (fun k => k = p ∨ k = b) w w' := by
  have H := set_any p b xs c i v w hs hc0 hc1
  rw [hm, gk, hit, if_pos hi, if_pos hi, er_no] at H
  exact H
theorem set_out (p b : Nat) (xs : List Int) (c i v : Int) (m : Nat) (w : World) (hm : xs.length = m) (hi : inside m i = false) (hs : St 56 w p b xs c) (hc0 : 0 ≤ c) (hc1 : c ≤ 4611686018427387904) :
    Calls Try.prog 13 #[.pointer (some ⟨p, 0, none⟩), .int .i64 i, .int .u64 v] w fun e w' =>
      e = .returned (.iface 54 (.int .i64 3)) ∧ St 56 w' p b (sv xs i v) c ∧ Turns (fun k => k = p ∨ k = b) w w' := by
  have H := set_any p b xs c i v w hs hc0 hc1
  rw [hm, gk, hit, hi, if_neg (by simp), if_neg (by simp), er_yes (by omega), Int.add_zero] at H
  exact H
theorem within_yes (i : Int) (m : Nat) (hi : inside m i = true) (w : World) :
    Calls Try.prog 18 #[.int .i64 i, .int .i64 m] w fun e w' => e = .returned (.bool true) ∧ w = w' := by
  have H := within_any i m w
  rw [show decide (0 ≤ i ∧ i < (m : Int)) = true from hi] at H
  exact H
theorem within_no (i : Int) (m : Nat) (hi : inside m i = false) (w : World) :
    Calls Try.prog 18 #[.int .i64 i, .int .i64 m] w fun e w' => e = .returned (.bool false) ∧ w = w' := by
  have H := within_any i m w
  rw [show decide (0 ≤ i ∧ i < (m : Int)) = false from hi] at H
  exact H

set_option maxRecDepth 100000 in
set_option maxHeartbeats 400000 in
theorem storeCounts_long (n : Int) (A : Option Addr) (l c : Nat) (hl : 500 < l) (hm : l ≤ maxLen) (w : World) :
    Calls Try.prog 6 #[.int .i64 n, .slice A l c] w fun e w' => e = .returned (.bool true) ∧ Below w.heap.size w w' := by
  unfold maxLen at hm
  obtain ⟨m, hmm, hlt⟩ := small_mod n 200 (by omega) (by omega)
  have HM := Lib.hid hmm
  clear hmm
  go_enter Try.func6, Try.ntmps6
  go_wp2_with fail
  rw [HM.out]
  refine (new_yes m (by omega) _).mono ?_
  rintro e w1 ⟨_, rfl, p, b, rfl, hs1, hp, hb, hw1⟩
  go_wp2_with (
    go_at_call 8
    refine (awake_any _).mono ?_
    rintro e w2 ⟨rfl, hw2⟩
    replace hw1 := hw1.trans (hw2.mono hw1.size))
  go_ret
  exact ⟨rfl, hw1⟩

set_option maxRecDepth 100000 in
set_option maxHeartbeats 1000000 in
theorem storeCounts_short (n : Int) (A : Option Addr) (l c : Nat) (zs : List Int) (hl : l ≤ 500) (w : World) (hz : Came w .i64 A l zs) :
    Calls Try.prog 6 #[.int .i64 n, .slice A l c] w fun e w' => e = .returned (.bool true) ∧ Below w.heap.size w w' := by
  obtain ⟨m, hmm, hlt⟩ := small_mod n 200 (by omega) (by omega)
  have HM := Lib.hid hmm
  clear hmm
  go_enter Try.func6, Try.ntmps6
  go_wp2_with fail
  rw [HM.out]
  refine (new_yes m (by omega) _).mono ?_
  rintro e w1 ⟨_, rfl, p, b, rfl, hs1, hp, hb, hw1⟩
  go_wp2_with (
    go_at_call 8
    refine (awake_any _).mono ?_
    rintro e w2 ⟨rfl, hw2⟩)
  have hs2 := hs1.turns (Turns.of_below hw2 (fun _ => False)) (fun h => h) (fun h => h)
  have hb2 := hw1.trans (hw2.mono hw1.size)
  go_loopw [7, 39] (fun d k wr => ∃ (k' : Nat) (xs : List Int) (c : Int), k' ≤ l ∧ k = .int .i64 k' ∧ d = .int .i64 c ∧ xs.length = m ∧ 0 ≤ c ∧ c ≤ k' ∧ St 56 wr p b xs c ∧ Below w.heap.size w wr) (fun _ k _ => l - (intOf k).toNat)
  case atStart => exact ⟨0, _, 0, by omega, rfl, rfl, by simp, by omega, by omega, hs2, hb2⟩
  case round =>
    obtain ⟨k, xs, cc, hk, rfl, rfl, hx, hc0, hc1, hs, hw⟩ := hrel
    have HX := Lib.hid hx
    clear hx
    by_cases hkl : k < l
    · obtain ⟨g, off, rfl, hg, hcell⟩ := hz.at_ hw hkl
      generalize zs.getD k 0 = a at hcell
      have hodd : (k : Int) % 2 = 0 ∨ (k : Int) % 2 = 1 := by omega
      rcases hodd with ho | ho
      · have e1 : ((k : Int) % 2 == 0) = true := by rw [ho]; rfl
        clear ho
        cases hin : inside m a
        · have hi := Lib.hid hin
          have GG := Lib.hid (get_out p b xs cc a m _ HX.out hin hs (by omega) (by omega))
          clear hin
          go_wp2_with (first
            | (go_at_call 11
               refine GG.out.mono ?_
               rintro e w3 ⟨rfl, hs3, ht3⟩)
            | (go_at_call 18
               refine (within_no _ m hi.out _).mono ?_
               rintro e w' ⟨rfl, rfl⟩))
          go_roundw
          case rel => exact ⟨k + 1, _, _, by omega, by go_num, rfl, HX.out, by omega, by omega, hs3, hw.trans (ht3.below hw.size (fun i hi => by omega))⟩
          case measure => simp [intOf]; omega
        · have hi := Lib.hid hin
          have GG := Lib.hid (get_in p b xs cc a m _ HX.out hin hs (by omega) (by omega))
          have e2 : (cc + 1 == 0) = false := by simp; omega
          clear hin
          go_wp2_with (first
            | (go_at_call 11
               refine GG.out.mono ?_
               rintro e w3 ⟨rfl, hs3, ht3⟩)
            | (go_at_call 18
               refine (within_yes _ m hi.out _).mono ?_
               rintro e w' ⟨rfl, rfl⟩))
          go_roundw
          case rel => exact ⟨k + 1, _, _, by omega, by go_num, rfl, HX.out, by omega, by omega, hs3, hw.trans (ht3.below hw.size (fun i hi => by omega))⟩
          case measure => simp [intOf]; omega
      · have e1 : ((k : Int) % 2 == 0) = false := by rw [ho]; rfl
        clear ho
        cases hin : inside m a
        · have hi := Lib.hid hin
          have GG := Lib.hid (set_out p b xs cc a k m _ HX.out hin hs (by omega) (by omega))
          clear hin
          go_wp2_with (first
            | (go_at_call 13
               refine GG.out.mono ?_
               rintro e w3 ⟨rfl, hs3, ht3⟩)
            | (go_at_call 18
               refine (within_no _ m hi.out _).mono ?_
               rintro e w' ⟨rfl, rfl⟩))
          go_roundw
          case rel => exact ⟨k + 1, _, _, by omega, by go_num, rfl, (sv_length _ _ _).trans HX.out, by omega, by omega, hs3, hw.trans (ht3.below hw.size (fun i hi => by omega))⟩
          case measure => simp [intOf]; omega
        · have hi := Lib.hid hin
          have GG := Lib.hid (set_in p b xs cc a k m _ HX.out hin hs (by omega) (by omega))
          have e2 : (cc + 1 == 0) = false := by simp; omega
          clear hin
          go_wp2_with (first
            | (go_at_call 13
               refine GG.out.mono ?_
               rintro e w3 ⟨rfl, hs3, ht3⟩)
            | (go_at_call 18
               refine (within_yes _ m hi.out _).mono ?_
               rintro e w' ⟨rfl, rfl⟩))
          go_roundw
          case rel => exact ⟨k + 1, _, _, by omega, by go_num, rfl, (sv_length _ _ _).trans HX.out, by omega, by omega, hs3, hw.trans (ht3.below hw.size (fun i hi => by omega))⟩
          case measure => simp [intOf]; omega
    · obtain rfl : k = l := by omega
      go_wp2_with (
        go_at_call 16
        refine (count_any p b xs cc _ hs).mono ?_
        rintro e w' ⟨rfl, rfl⟩)
      go_ret
      exact ⟨rfl, hw⟩

theorem storeCounts_walk (n : Int) (A : Option Addr) (l c : Nat) (zs : List Int) (hm : l ≤ maxLen) (w : World) (hz : Came w .i64 A l zs) :
    Calls Try.prog 6 #[.int .i64 n, .slice A l c] w fun e w' => e = .returned (.bool true) ∧ Below w.heap.size w w' := by
  by_cases hl : l ≤ 500
  · exact storeCounts_short n A l c zs hl w hz
  · exact storeCounts_long n A l c (by omega) hm w
end Go.Proofs.Ytbcmogokdkcneaa
