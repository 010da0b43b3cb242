/- The reference's counts over data: some number, whatever it is. -/
import Derived.Test.YtfabafolbelhdaaDoorReadSame
namespace Go.Proofs.YtfabafolbelhdaaDoor
open Go.ChangeShapes Go.WideShapes Go.ChangeAt Go.RowKit

def SomeN (m : Int) (w : World) (e : Ending) (w' : World) : Prop := ∃ y : Int, 0 ≤ y ∧ y ≤ m ∧ e = .returned (.int .i64 y) ∧ Went w w'
def DeepOk (x : RM.Dm) : Prop := ∀ (w : World) (S : Nat → Prop) (v : Value) (far : Int), Dat w S v x.is → 0 ≤ far → far ≤ 100000 → Calls Tryd.prog 10 #[dtv x v, .int .i64 far] w (SomeN (far + 1) w)
def CountOk (x : RM.Dm) : Prop := ∀ (w : World) (S : Nat → Prop) (v : Value) (n far : Int), Dat w S v x.is → 0 ≤ n → n ≤ 5000 → 0 ≤ far → far ≤ 100000 → Calls Tryd.prog 18 #[dtv x v, .int .i64 n, .int .i64 far] w (SomeN 5000 w)

set_option maxRecDepth 100000 in
set_option maxHeartbeats 4000000 in
theorem deep_step (k n : Int) (s : List UInt8) (is : RM.Dl) (hP : ∀ i x, is.at_ i = some x → DeepOk x) : DeepOk ⟨k, n, s, is⟩ := by
  intro w S v far h1 hf0 hf1
  have hlen := h1.len
  obtain ⟨A1, c1, rfl⟩ := h1.read
  simp only at h1 hlen ⊢
  unfold dtv
  simp only
  obtain ⟨N, hN⟩ : ∃ N, is.len = N := ⟨_, rfl⟩
  rw [hN] at h1 hlen ⊢
  have hN' := Lib.hid hN
  have hP' := Lib.hid hP
  have hL1 := Lies.made w 29 #[.int .i64 k, .int .i64 n, .string ⟨s.toArray⟩, .slice A1 N c1]
  clear hN hP
  by_cases hf : 0 < far
  · go_enter Tryd.func10, Tryd.ntmps10
    go_wp2_with fail
    go_loopw [5, 6] (fun y i wr => ∃ (j : Nat) (m : Int), j ≤ N ∧ i = .int .i64 j ∧ 0 ≤ m ∧ m ≤ far ∧ y = .int .i64 m ∧ Below w.heap.size w wr ∧ Lies wr w.heap.size 29 [.int .i64 k, .int .i64 n, .string ⟨s.toArray⟩, .slice A1 N c1]) (fun _ i _ => N - (intOf i).toNat)
    case atStart => exact ⟨0, 0, by omega, rfl, by omega, by omega, rfl, (Below.refl _ w).alloc (Nat.le_refl _) _, hL1⟩
    case round =>
      obtain ⟨j, m, hj, rfl, hm0, hm1, rfl, hb, hM1⟩ := hrel
      clear hL1
      have y3 : wr.cell? ⟨w.heap.size, 3, none⟩ = some (.slice A1 N c1) := hM1.cell 3
      by_cases hlt : j < N
      · obtain ⟨x, hx⟩ := is.at_some j (by rw [hN'.out]; exact hlt)
        have e1 := (h1.turns (Turns.of_below hb (fun _ => False)) (fun _ _ _ h => h)).at_ hx
        obtain ⟨g1, u1, rfl, hg1, p0, p1, p2, p3, hd1⟩ := e1
        have hx' := Lib.hid (hP'.out j x hx)
        obtain ⟨B1, b1, rfl⟩ := hd1.read
        clear hx
        go_wp2_with (
          go_at_call 10
          refine (hx'.out wr S (.slice B1 x.is.len b1) (far - 1) hd1 (by omega) (by omega)).mono ?_
          rintro e w5 ⟨y5, h50, h51, rfl, hb5⟩
          have hM3 := hM1.below hb5 hM1.lt
          have hb6 : Below w.heap.size w w5 := hb.trans (hb5.mono hb.size)
          clear p0 p1 p2 p3 y3 hb5)
        all_goals
          go_roundw
          case rel => exact ⟨j + 1, _, by omega, by go_num, by omega, by omega, rfl, hb6, hM3⟩
          case measure => simp [intOf]; omega
      · obtain rfl : j = N := by omega
        go_wp2_with fail
        go_ret
        exact ⟨m + 1, by omega, by omega, rfl, hb⟩
  · go_enter Tryd.func10, Tryd.ntmps10
    go_wp2_with fail
    go_ret
    exact ⟨1, by omega, by omega, rfl, (Below.refl _ w).alloc (Nat.le_refl _) _⟩
theorem deep_any (x : RM.Dm) : DeepOk x := RM.Dl.all_of DeepOk deep_step (.one x) 0 x (by cases x; rfl)

set_option maxRecDepth 100000 in
set_option maxHeartbeats 4000000 in
theorem count_step (k n : Int) (s : List UInt8) (is : RM.Dl) (hP : ∀ i x, is.at_ i = some x → CountOk x) : CountOk ⟨k, n, s, is⟩ := by
  intro w S v n0 far h1 hn0 hn1 hf0 hf1
  have hlen := h1.len
  obtain ⟨A1, c1, rfl⟩ := h1.read
  simp only at h1 hlen ⊢
  unfold dtv
  simp only
  obtain ⟨N, hN⟩ : ∃ N, is.len = N := ⟨_, rfl⟩
  rw [hN] at h1 hlen ⊢
  have hN' := Lib.hid hN
  have hP' := Lib.hid hP
  have hL1 := Lies.made w 29 #[.int .i64 k, .int .i64 n, .string ⟨s.toArray⟩, .slice A1 N c1]
  clear hN hP
  go_enter Tryd.func18, Tryd.ntmps18
  go_wp2_with fail
  go_loopw [1, 7] (fun y i wr => ∃ (j : Nat) (m : Int), j ≤ N ∧ i = .int .i64 j ∧ 0 ≤ m ∧ m ≤ 5001 ∧ y = .int .i64 m ∧ Below w.heap.size w wr ∧ Lies wr w.heap.size 29 [.int .i64 k, .int .i64 n, .string ⟨s.toArray⟩, .slice A1 N c1]) (fun _ i _ => N - (intOf i).toNat)
  case atStart => exact ⟨0, n0 + 1, by omega, rfl, by omega, by omega, rfl, (Below.refl _ w).alloc (Nat.le_refl _) _, hL1⟩
  case round =>
    obtain ⟨j, m, hj, rfl, hm0, hm1, rfl, hb, hM1⟩ := hrel
    clear hL1
    have y3 : wr.cell? ⟨w.heap.size, 3, none⟩ = some (.slice A1 N c1) := hM1.cell 3
    by_cases hlt : j < N ∧ m < 5000 ∧ 0 < far
    · obtain ⟨hlt, hmm, hff⟩ := hlt
      obtain ⟨x, hx⟩ := is.at_some j (by rw [hN'.out]; exact hlt)
      have e1 := (h1.turns (Turns.of_below hb (fun _ => False)) (fun _ _ _ h => h)).at_ hx
      obtain ⟨g1, u1, rfl, hg1, p0, p1, p2, p3, hd1⟩ := e1
      have hx' := Lib.hid (hP'.out j x hx)
      obtain ⟨B1, b1, rfl⟩ := hd1.read
      clear hx
      go_wp2_with (
        go_at_call 18
        refine (hx'.out wr S (.slice B1 x.is.len b1) m (far - 1) hd1 (by omega) (by omega) (by omega) (by omega)).mono ?_
        rintro e w5 ⟨y5, h50, h51, rfl, hb5⟩
        have hM3 := hM1.below hb5 hM1.lt
        have hb6 : Below w.heap.size w w5 := hb.trans (hb5.mono hb.size)
        clear p0 p1 p2 p3 y3 hb5)
      go_roundw
      case rel => exact ⟨j + 1, y5, by omega, by go_num, by omega, by omega, rfl, hb6, hM3⟩
      case measure => simp [intOf]; omega
    · by_cases hj2 : j < N
      · by_cases hm2 : m < 5000
        · have hff : ¬ 0 < far := fun h => hlt ⟨hj2, hm2, h⟩
          clear hlt
          go_wp2_with fail
          all_goals
            go_ret
            exact ⟨_, by omega, by omega, rfl, hb⟩
        · clear hlt
          go_wp2_with fail
          all_goals
            go_ret
            exact ⟨_, by omega, by omega, rfl, hb⟩
      · clear hlt
        go_wp2_with fail
        all_goals
          go_ret
          exact ⟨_, by omega, by omega, rfl, hb⟩
theorem count_any (x : RM.Dm) : CountOk x := RM.Dl.all_of CountOk count_step (.one x) 0 x (by cases x; rfl)
theorem parts_any (x : RM.Dm) (w : World) (S : Nat → Prop) (v : Value) (h : Dat w S v x.is) : Calls Tryd.prog 11 #[dtv x v] w (SomeN 5000 w) := by
  obtain ⟨A1, c1, rfl⟩ := h.read
  have hC := Lib.hid (fun w' (hb : Below w.heap.size w w') => count_any x w' S (.slice A1 x.is.len c1) 0 100000 (h.below hb) (by omega) (by omega) (by omega) (by omega))
  unfold dtv at hC ⊢
  have hb0 : Below w.heap.size w (w.alloc (.cells #[.int .i64 x.k, .int .i64 x.n, .string ⟨x.s.toArray⟩, .slice A1 x.is.len c1] 29)) := (Below.refl _ w).alloc (Nat.le_refl _) _
  go_enter Tryd.func11, Tryd.ntmps11
  go_wp2_with (
    go_at_call 18
    refine (hC.out _ hb0).mono ?_
    rintro e w5 ⟨y5, h50, h51, rfl, hb5⟩)
  go_ret
  exact ⟨y5, h50, h51, rfl, hb0.trans (hb5.mono (by simp))⟩
end Go.Proofs.YtfabafolbelhdaaDoor
