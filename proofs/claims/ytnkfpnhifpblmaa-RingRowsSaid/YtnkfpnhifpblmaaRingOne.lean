/- The law of layer 4 on one member. -/
import Derived.Test.YtnkfpnhifpblmaaRingLaws
namespace Go.Proofs.Ytnkfpnhifpblmaa
open Go.ChangeShapes Go.WideShapes Go.ChangeAt Go.RowKit

theorem small_mod (n q : Int) (h0 : 0 < q) (h1 : q ≤ 1048576) : ∃ m : Nat, wrap64 ((IntKind.u64.wrap n).tmod q) = m ∧ (m : Int) < q := by
  have hn : 0 ≤ IntKind.u64.wrap n := by rw [IntKind.wrap_u64]; omega
  rw [Int.tmod_eq_emod_of_nonneg hn]
  have a := Int.emod_nonneg (IntKind.u64.wrap n) (show q ≠ 0 by omega)
  have b := Int.emod_lt_of_pos (IntKind.u64.wrap n) h0
  refine ⟨((IntKind.u64.wrap n) % q).toNat, ?_, by omega⟩
  rw [IntWalk.wrap64_in _ ⟨by omega, by omega⟩]
  omega
theorem had_newi (z : Int) (n : Nat) (hz : z = n) (h : n ≤ 1048576) (w : World) :
    Calls Try.prog 6 #[.int .i64 z] w fun e w' => ∃ p b, e = .returned (.tuple #[.pointer (some ⟨p, 0, none⟩), .nilIface]) ∧ Had w' p b (List.replicate n 0) 0 ∧ w.heap.size ≤ p ∧ w.heap.size ≤ b ∧ Below w.heap.size w w' := by
  subst hz
  exact had_new n h w

/-- the first j places are rings of their own -/
def Start (n : Nat) (xs : List Int) (j : Nat) : Prop := xs.length = n ∧ ∀ i : Nat, i < j → Path xs (3 * i) [] (3 * i)
theorem start_zero (n : Nat) : Start n (List.replicate n 0) 0 := ⟨by simp, fun i hi => by omega⟩
theorem start_next {n j : Nat} {xs : List Int} (h : Start n xs j) (hj : 3 * j + 2 < n) : Start n (ini xs (3 * j)) (j + 1) ∧ Pl n (3 * j) := by
  have hb : Pl n (3 * (j : Int)) := ⟨by omega, by omega, by omega⟩
  refine ⟨⟨by rw [ini_length, h.1], fun i hi => ?_⟩, hb⟩
  by_cases e : i = j
  · subst e
    exact ini_path h.1 hb
  · exact ini_far h.1 hb (h.2 i (by omega)) (by omega) (by omega)
theorem init_next (p b : Nat) {xs : List Int} {n j : Nat} (K : Nat) (w : World) (hs : Had w p b xs K) (hK : K + 2 ≤ 1000000000) (hn : n ≤ 1048576) (h : Start n xs j) (hj : 3 * j + 2 < n) :
    Calls Try.prog 8 #[.pointer (some ⟨p, 0, none⟩), .int .i64 (3 * j)] w fun e w' =>
      e = .returned .nilIface ∧ Start n (ini xs (3 * j)) (j + 1) ∧ Had w' p b (ini xs (3 * j)) (K + 2) ∧ Turns (fun k => k = p ∨ k = b) w w' := by
  obtain ⟨h1, h2⟩ := start_next h hj
  have hl := h.1
  subst hl
  exact (ring_Init p b xs K (3 * j) w hs hK hn h2).mono fun e w' ⟨a, b, c⟩ => ⟨a, h1, b, c⟩

/-- the first j places' behind is among them; the others' are their own -/
def Some1 (n : Nat) (xs : List Int) (j m : Nat) : Prop :=
  xs.length = n ∧ (∀ i : Nat, i < j → ∃ i' : Nat, i' < j ∧ gv xs (3 * i + 2) = 3 * i') ∧ ∀ i : Nat, j ≤ i → i ≤ m → gv xs (3 * i + 2) = 3 * i
theorem some1_start {n j : Nat} {xs : List Int} (h : Start n xs (j + 1)) : Some1 n xs 1 j :=
  ⟨h.1, fun i hi => ⟨i, hi, (h.2 i (by omega)).1⟩, fun i _ hi => (h.2 i (by omega)).1⟩
theorem some1_ins {n j m : Nat} {xs : List Int} (h : Some1 n xs j m) (h0 : 1 ≤ j) (hj : j ≤ m) (hm : 3 * m + 2 < n) :
    Some1 n (ins xs 0 (3 * j)) (j + 1) m ∧ Pl n 0 ∧ Pl n (3 * j) ∧ Pl n (gv xs (0 + 2)) := by
  obtain ⟨x, hx, hx'⟩ := h.2.1 0 (by omega)
  have ha : Pl n 0 := ⟨by omega, by omega, by omega⟩
  have hb : Pl n (3 * (j : Int)) := ⟨by omega, by omega, by omega⟩
  have hx' : gv xs (0 + 2) = 3 * x := by simpa using hx'
  have hp : Pl n (gv xs (0 + 2)) := by rw [hx']; exact ⟨by omega, by omega, by omega⟩
  have G := gv_ins h.1 ha hb hp
  rw [hx'] at G
  refine ⟨⟨by rw [ins_length, h.1], fun i hi => ?_, fun i hi hi' => ?_⟩, ha, hb, hp⟩
  · rw [G, if_neg (by omega)]
    by_cases e0 : i = 0
    · exact ⟨j, by omega, by rw [if_pos (by omega)]⟩
    · rw [if_neg (by omega)]
      by_cases e1 : i = j
      · exact ⟨x, by omega, by rw [if_pos (by omega)]⟩
      · obtain ⟨y, hy, hy'⟩ := h.2.1 i (by omega)
        exact ⟨y, by omega, by rw [if_neg (by omega), if_neg (by omega), hy']⟩
  · rw [G, if_neg (by omega), if_neg (by omega), if_neg (by omega), if_neg (by omega)]
    exact h.2.2 i (by omega) hi'

/-- what the last insertion leaves -/
theorem some1_end {n m i : Nat} {xs : List Int} (h : Some1 n xs m m) (hi : i < m) (hm : 3 * m + 2 < n) :
    ∃ x : Nat, x < m ∧ gv xs (3 * i + 2) = 3 * x ∧ (ins xs (3 * i) (3 * m)).length = n ∧ gv (ins xs (3 * i) (3 * m)) (3 * i + 2) = 3 * m ∧ gv (ins xs (3 * i) (3 * m)) (3 * m + 2) = 3 * x ∧
      gv (ins xs (3 * i) (3 * m)) (3 * x + 1) = 3 * m ∧ gv (ins xs (3 * i) (3 * m)) (3 * m + 1) = 3 * i := by
  obtain ⟨x, hx, hx'⟩ := h.2.1 i hi
  have G := gv_ins (a := 3 * i) (b := 3 * m) h.1 ⟨by omega, by omega, by omega⟩ ⟨by omega, by omega, by omega⟩ (by rw [hx']; exact ⟨by omega, by omega, by omega⟩)
  rw [hx'] at G
  refine ⟨x, hx, hx', by rw [ins_length, h.1], ?_, ?_, ?_, ?_⟩
  · rw [G, if_neg (by omega), if_pos rfl]
  · rw [G, if_neg (by omega), if_neg (by omega), if_pos rfl]
  · rw [G, if_pos rfl]
  · rw [G, if_neg (by omega), if_neg (by omega), if_neg (by omega), if_pos rfl]

set_option maxRecDepth 100000 in
set_option maxHeartbeats 1000000 in
theorem ringOne_walk (n i : Int) (w : World) :
    Calls Try.prog 4 #[.int .i64 n, .int .i64 i] w fun e w' => e = .returned (.bool true) ∧ Below w.heap.size w w' := by
  obtain ⟨m0, hm, hlt⟩ := small_mod n 20 (by omega) (by omega)
  have HM := Lib.hid hm
  clear hm
  go_enter Try.func4, Try.ntmps4
  go_wp2_with fail
  rw [HM.out]
  obtain ⟨M, hM⟩ : ∃ M : Nat, M = 2 + m0 := ⟨_, rfl⟩
  have e1 : wrap64 (2 + (m0 : Int)) = M := by rw [IntWalk.wrap64_in _ ⟨by omega, by omega⟩]; omega
  have e2 : wrap64 ((M : Int) + 1) = M + 1 := by rw [IntWalk.wrap64_in _ ⟨by omega, by omega⟩]
  have e3 : wrap64 (3 * ((M : Int) + 1)) = 3 * (M + 1) := by rw [IntWalk.wrap64_in _ ⟨by omega, by omega⟩]
  rw [e1, e2, e3]
  have hM0 : 2 ≤ M := by omega
  have hM1 : M ≤ 30 := by omega
  clear e1 e2 e3 HM hM hlt
  obtain ⟨N, hN⟩ : ∃ N : Nat, N = 3 * (M + 1) := ⟨_, rfl⟩
  refine (had_newi _ N (by omega) (by omega) _).mono ?_
  rintro e w1 ⟨p, b, rfl, hs1, hp, hb, hw1⟩
  go_wp2_with (
    go_at_call 7
    refine (awake_any _).mono ?_
    rintro e w2 ⟨rfl, hw2⟩)
  have hs2 := hs1.st (Turns.of_below hw2 (fun _ => False)) (fun h => h) (fun h => h) (Nat.le_refl _)
  have hb2 := hw1.trans (hw2.mono hw1.size)
  go_loopw [48] (fun k wr => ∃ (j : Nat) (xs : List Int), j ≤ M + 1 ∧ k = .int .i64 j ∧ Start N xs j ∧ Had wr p b xs (2 * j) ∧ Below w.heap.size w wr) (fun k _ => M + 1 - (intOf k).toNat)
  case atStart => exact ⟨0, _, by omega, rfl, start_zero N, hs2, hb2⟩
  case round =>
    obtain ⟨j, xs, hj, rfl, hst, hs3, hb3⟩ := hrel
    by_cases hjm : j < M + 1
    · have I := Lib.hid (init_next p b (2 * j) wr hs3 (by omega) (by omega) hst (by omega))
      clear hst
      go_wp2_with (
        go_at_call 8
        refine I.out.mono ?_
        rintro e w4 ⟨rfl, hst4, hs4, ht4⟩)
      go_roundw
      case rel => exact ⟨j + 1, _, by omega, by go_num, hst4, hs4, hb3.trans (ht4.below hb3.size (fun i hi => by omega))⟩
      case measure => simp [intOf]; omega
    · obtain rfl : j = M + 1 := by omega
      have H1 := some1_start hst
      clear hst
      go_wp2_with fail
      go_loopw [8] (fun k wr => ∃ (j : Nat) (xs : List Int), 1 ≤ j ∧ j ≤ M ∧ k = .int .i64 j ∧ Some1 N xs j M ∧ Had wr p b xs (2 * (M + 1) + 5 * j) ∧ Below w.heap.size w wr) (fun k _ => M - (intOf k).toNat)
      case atStart => exact ⟨1, xs, by omega, by omega, rfl, H1, hs3.st (Turns.refl (fun _ => False) _) (fun h => h) (fun h => h) (by omega), hb3⟩
      case round =>
        obtain ⟨j, ys, hj1, hj2, rfl, hso, hs5, hb5⟩ := hrel
        by_cases hjm : j < M
        · obtain ⟨h1, h2, h3, h4⟩ := some1_ins hso hj1 hj2 (by omega)
          have hl := hso.1
          have I := ring_Insert p b ys (2 * (M + 1) + 5 * j) 0 (3 * j) wr hs5 (by omega) (by omega) (by rw [hl]; exact h2) (by rw [hl]; exact h3) (by rw [hl]; exact h4)
          have II := Lib.hid I
          clear I h2 h3 h4 hso hl
          go_wp2_with (
            go_at_call 12
            refine II.out.mono ?_
            rintro e w6 ⟨rfl, hs6, ht6⟩)
          go_roundw
          case rel =>
            (repeat apply Exists.intro)
            exact ⟨⟨j + 1, _, by omega, by omega, by go_num, h1, hs6, hb5.trans (ht6.below hb5.size (fun i hi => by omega))⟩, rfl⟩
          case measure => simp [intOf]; omega
        · obtain rfl : j = M := by omega
          go_wp2_with fail
          obtain ⟨q, hq, hqj⟩ := small_mod i j (by omega) (by omega)
          obtain ⟨x, hx, hnext, hl, g1, g2, g3, g4⟩ := some1_end (i := q) hso (by omega) (by omega)
          have hl0 := hso.1
          have e4 : wrap64 (3 * (q : Int)) = 3 * q := by rw [IntWalk.wrap64_in _ ⟨by omega, by omega⟩]
          rw [hq, e4]
          have pq : Pl N (3 * (q : Int)) := ⟨by omega, by omega, by omega⟩
          have px : Pl N (3 * (x : Int)) := ⟨by omega, by omega, by omega⟩
          have pj : Pl N (3 * (j : Int)) := ⟨by omega, by omega, by omega⟩
          have C1 := ring_Behind p b ys (2 * (j + 1) + 5 * j) (3 * q) wr hs5 (by omega) (by omega) (by rw [hl0]; exact pq) (by rw [hl0, hnext]; exact px)
          rw [hnext] at C1
          have C2 := fun w h => ring_Alone p b ys (2 * (j + 1) + 5 * j + 1) (3 * j) w h (by omega) (by omega) (by rw [hl0]; exact pj) (hso.2.2 j (by omega) (by omega))
          have C3 := fun w h => ring_Insert p b ys (2 * (j + 1) + 5 * j + 2) (3 * q) (3 * j) w h (by omega) (by omega) (by rw [hl0]; exact pq) (by rw [hl0]; exact pj) (by rw [hl0, hnext]; exact px)
          have C4 := fun w h => ring_Behind p b (ins ys (3 * q) (3 * j)) (2 * (j + 1) + 5 * j + 7) (3 * q) w h (by omega) (by omega) (by rw [hl]; exact pq) (by rw [hl, g1]; exact pj)
          rw [g1] at C4
          have C5 := fun w h => ring_Behind p b (ins ys (3 * q) (3 * j)) (2 * (j + 1) + 5 * j + 8) (3 * j) w h (by omega) (by omega) (by rw [hl]; exact pj) (by rw [hl, g2]; exact px)
          rw [g2] at C5
          have C6 := fun w h => ring_Ahead p b (ins ys (3 * q) (3 * j)) (2 * (j + 1) + 5 * j + 9) (3 * x) w h (by omega) (by omega) (by rw [hl]; exact px) (by rw [hl, g3]; exact pj)
          rw [g3] at C6
          have C7 := fun w h => ring_Ahead p b (ins ys (3 * q) (3 * j)) (2 * (j + 1) + 5 * j + 10) (3 * j) w h (by omega) (by omega) (by rw [hl]; exact pj) (by rw [hl, g4]; exact pq)
          rw [g4] at C7
          generalize ins ys (3 * q) (3 * j) = zs at *
          have D1 := Lib.hid C1
          have D2 := Lib.hid C2
          have D3 := Lib.hid C3
          have D4 := Lib.hid C4
          have D5 := Lib.hid C5
          have D6 := Lib.hid C6
          have D7 := Lib.hid C7
          clear C1 C2 C3 C4 C5 C6 C7 hso hnext hl g1 g2 g3 g4 hl0 e4 pq px pj H1 hq
          refine D1.out.mono ?_
          rintro e w6 ⟨rfl, hs6, ht6⟩
          go_wp2_with (first
            | (go_at_call 11
               refine (D2.out _ hs6).mono ?_
               rintro e w7 ⟨rfl, hs7, ht7⟩)
            | (go_at_call 12
               refine (D3.out _ hs7).mono ?_
               rintro e w8 ⟨rfl, hs8, ht8⟩)
            | (go_at_call 15
               (with_reducible refine (D4.out _ hs8).mono ?_)
               rintro e w9 ⟨rfl, hs9, ht9⟩)
            | (go_at_call 15
               (with_reducible refine (D5.out _ hs9).mono ?_)
               rintro e w10 ⟨rfl, hs10, ht10⟩)
            | (go_at_call 16
               (with_reducible refine (D6.out _ hs10).mono ?_)
               rintro e w11 ⟨rfl, hs11, ht11⟩)
            | (go_at_call 16
               (with_reducible refine (D7.out _ hs11).mono ?_)
               rintro e w12 ⟨rfl, hs12, ht12⟩))
          go_ret
          exact ⟨rfl, hb5.trans (((((((ht6.mono fun _ _ e => .inl e).trans (ht7.mono fun _ _ e => .inl e)).trans ht8).trans (ht9.mono fun _ _ e => .inl e)).trans (ht10.mono fun _ _ e => .inl e)).trans (ht11.mono fun _ _ e => .inl e)).trans (ht12.mono fun _ _ e => .inl e) |>.below hb5.size (fun i hi => by omega))⟩
end Go.Proofs.Ytnkfpnhifpblmaa
