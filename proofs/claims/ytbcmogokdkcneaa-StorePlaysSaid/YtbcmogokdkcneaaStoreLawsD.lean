/- The law of layer 3 on plays. -/
import Derived.Test.YtbcmogokdkcneaaStoreLawsC
namespace Go.Proofs.Ytbcmogokdkcneaa
open Go.ChangeShapes Go.WideShapes Go.ChangeAt Go.RowKit

set_option maxRecDepth 100000 in
set_option maxHeartbeats 400000 in
theorem storePlays_let (n : Int) (A : Option Addr) (l c : Nat) (hl : 16384 < n ∧ n ≤ 1048576 ∨ 500 < l) (hm : l ≤ maxLen) (w : World) :
    Calls Try.prog 3 #[.int .i64 n, .slice A l c] w fun e w' => e = .returned (.bool true) ∧ Below w.heap.size w w' := by
  unfold maxLen at hm
  have h' : 16384 < n ∧ n ≤ 1048576 ∨ n ≤ 16384 ∧ 500 < l ∨ 16384 < n ∧ 1048576 < n ∧ 500 < l := by omega
  clear hl
  rcases h' with ⟨h1, h2⟩ | ⟨h1, h2⟩ | ⟨h1, h2, h3⟩
  all_goals
    go_enter Try.func3, Try.ntmps3
    go_wp2_with (
      go_at_call 8
      refine (awake_any _).mono ?_
      rintro e w2 ⟨rfl, hw2⟩)
    go_ret
    exact ⟨rfl, hw2⟩

set_option maxRecDepth 100000 in
set_option maxHeartbeats 400000 in
theorem storePlays_none (n : Int) (A : Option Addr) (l c : Nat) (hn : n < 0 ∨ 1048576 < n) (hl : l ≤ 500) (w : World) :
    Calls Try.prog 3 #[.int .i64 n, .slice A l c] w fun e w' => e = .returned (.bool true) ∧ Below w.heap.size w w' := by
  have NN := Lib.hid (fun w => new_no n hn w)
  have K2 := Lib.hid (fun w => kind_yes 2 (by omega) (by omega) w)
  rw [er_yes (by omega)] at NN
  have h' : n < 0 ∨ 0 ≤ n ∧ 1048576 < n := by omega
  clear hn
  rcases h' with h1 | ⟨h1, h2⟩
  all_goals
    go_enter Try.func3, Try.ntmps3
    go_wp2_with (first
      | (go_at_call 9
         refine (NN.out _).mono ?_
         rintro e w' ⟨rfl, rfl⟩)
      | (go_at_call 8
         refine (awake_any _).mono ?_
         rintro e w2 ⟨rfl, hw2⟩)
      | (go_at_call 10
         refine (K2.out _).mono ?_
         rintro e w3 ⟨rfl, hw3⟩))
    go_ret
    exact ⟨rfl, hw2.trans (hw3.mono hw2.size)⟩

theorem St.made (w : World) (T : TypeId) (m : Nat) :
    St T ((w.alloc (.cells (madeCells #[Value.int .u64 0] m) 34)).alloc (.cells #[.slice (some ⟨w.heap.size, 0, none⟩) m m, .int .i64 0] T)) (w.heap.size + 1) w.heap.size (List.replicate m 0) 0 := by
  have hl1 := (Lies.made w 34 (madeCells #[Value.int .u64 0] m)).alloc (.cells #[.slice (some ⟨w.heap.size, 0, none⟩) m m, .int .i64 0] T)
  have hl2 := Lies.made (w.alloc (.cells (madeCells #[Value.int .u64 0] m) 34)) T #[.slice (some ⟨w.heap.size, 0, none⟩) m m, .int .i64 0]
  rw [made_zero] at hl1
  exact ⟨m, [], by simp, by simpa using hl2, hl1⟩

theorem St.apart {T T' : TypeId} {w : World} {p b r rb : Nat} {xs ys : List Int} {c d : Int} (h : St T w p b xs c) (k : St T' w r rb ys d) (h1 : T ≠ T') (h2 : T ≠ 34) (h3 : T' ≠ 34) : p ≠ r ∧ p ≠ rb ∧ r ≠ b := by
  obtain ⟨_, _, _, a0, a1⟩ := h
  obtain ⟨_, _, _, b0, b1⟩ := k
  exact ⟨a0.apart b0 h1, a0.apart b1 h2, b0.apart a1 h3⟩
theorem gk_bd (n : Nat) (i : Int) : 0 ≤ gk n i ∧ gk n i ≤ 3 := by unfold gk; split <;> omega
theorem St.tally {T : TypeId} {w : World} {p b : Nat} {xs : List Int} {c : Int} (h : St T w p b xs c) : w.cell? ⟨p, 1, none⟩ = some (.int .i64 c) := by
  obtain ⟨_, _, _, a0, _⟩ := h
  exact a0.cell 1
theorem quiet_left {P : Program} {f : FuncId} {args : Array Value} {w : World} {n : Nat} {v : Value}
    (h : Calls P f args (w.drewN n) fun e w' => e = .returned v ∧ w.drewN n = w') : Calls P f args (w.drewN n) fun e w'' => e = .returned v ∧ ∃ m, w'' = w.drewN m :=
  h.mono fun _ _ ⟨he, hm⟩ => ⟨he, n, hm.symm⟩

/-- a play's state: the store p, the document's store r, both of the words xs, touched c times; nothing below B has turned -/
def Play (B : Nat) (m : Nat) (p b r rb : Nat) (xs : List Int) (c : Int) (wr : World) : Prop :=
  xs.length = m ∧ St 56 wr p b xs c ∧ St 33 wr r rb xs c ∧ b ≠ rb ∧ B ≤ p ∧ B ≤ b ∧ B ≤ r ∧ B ≤ rb

set_option maxRecDepth 100000 in
set_option maxHeartbeats 1000000 in
theorem storePlays_short (m : Nat) (A : Option Addr) (l c : Nat) (Z : Nat → Nat → Int) (hn : m ≤ 16384) (hl : l ≤ 500) (w : World) (hz : CameRows w [.i64, .i64, .u64] A l Z) :
    Calls Try.prog 3 #[.int .i64 m, .slice A l c] w fun e w' => e = .returned (.bool true) ∧ Below w.heap.size w w' := by
  have hmk := run_make_row' (P := Try.prog) 31 34 (.int .u64 0) 8 Try.underlying31 Try.infoU64 rfl .i64 .i64 m (by omega) (by omega)
  go_enter Try.func3, Try.ntmps3
  go_wp2_with (first
    | (go_at_call 9
       refine (new_yes m (by omega) _).mono ?_
       rintro e w1 ⟨_, rfl, p, b, rfl, hs1, hp, hb, hw1⟩)
    | (go_at_call 8
       refine (awake_any _).mono ?_
       rintro e w2 ⟨rfl, hw2⟩))
  have hB := hw1.trans (hw2.mono hw1.size)
  have hpl : Play w.heap.size m p b (w2.heap.size + 1) w2.heap.size (List.replicate m 0) 0 ((w2.alloc (.cells (madeCells #[Value.int .u64 0] m) 34)).alloc (.cells #[.slice (some ⟨w2.heap.size, 0, none⟩) m m, .int .i64 0] 33)) := by
    have hs2 := hs1.below hw2
    have := hs2.lt
    exact ⟨by simp, hs2.turns (((Turns.refl (fun _ => False) _).alloc _).alloc _) (fun h => h) (fun h => h), St.made w2 _ m, by omega, hp, hb, Nat.le_trans hB.size (by omega), hB.size⟩
  have hB2 := (hB.alloc hB.size (.cells (madeCells #[Value.int .u64 0] m) 34)).alloc (by have := hB.size; simp; omega) (.cells #[.slice (some ⟨w2.heap.size, 0, none⟩) m m, .int .i64 0] 33)
  go_loopw [5, 69] (fun s k wr => ∃ (k' p b : Nat) (xs : List Int) (c : Int), k' ≤ l ∧ k = .int .i64 k' ∧ s = .pointer (some ⟨p, 0, none⟩) ∧ 0 ≤ c ∧ c ≤ k' ∧ Play w.heap.size m p b (w2.heap.size + 1) w2.heap.size xs c wr ∧ Below w.heap.size w wr) (fun _ k _ => l - (intOf k).toNat)
  case atStart => exact ⟨0, _, _, _, 0, by omega, rfl, rfl, by omega, by omega, hpl, hB2⟩
  case round =>
    obtain ⟨k, p, b, xs, c, hk, rfl, rfl, hc0, hc1, hplay, hw⟩ := hrel
    by_cases hkl : k < l
    · obtain ⟨g, off, rfl, hg, hcell⟩ := hz.at_ hw hkl
      have a0 : wr.cell? ⟨g, off + k * 3, none⟩ = some (.int .i64 (Z k 0)) := hcell 0 _ rfl
      have a1 : wr.cell? ⟨g, off + k * 3 + 1, none⟩ = some (.int .i64 (Z k 1)) := hcell 1 _ rfl
      have a2 : wr.cell? ⟨g, off + k * 3 + 2, none⟩ = some (.int .u64 (Z k 2)) := hcell 2 _ rfl
      clear hcell
      generalize Z k 0 = K at a0
      generalize Z k 1 = I at a1
      generalize Z k 2 = V at a2
      obtain ⟨hx, hs, hr, hne, hp1, hb1, hr1, hrb1⟩ := hplay
      obtain ⟨d1, d2, d3⟩ := hs.apart hr (by decide) (by decide) (by decide)
      obtain ⟨e1, e2⟩ := hs.lt
      obtain ⟨e3, e4⟩ := hr.lt
      have LL := Lies.made wr 36 #[.int .i64 K, .int .i64 I, .int .u64 V]
      have tw : Turns (fun _ => False) wr (wr.alloc (.cells #[.int .i64 K, .int .i64 I, .int .u64 V] 36)) := (Turns.refl _ _).alloc _
      have hs0 := hs.turns tw (fun h => h) (fun h => h)
      have hr0 := hr.turns tw (fun h => h) (fun h => h)
      have hh := hit_bd m I
      have hq := gk_bd m I
      have HX := Lib.hid hx
      clear hs hr
      by_cases hK1 : K = 1
      · subst hK1
        have G := get_any p b xs c I _ hs0 (by omega) (by omega)
        have R := fun w' h => rget_any (w2.heap.size + 1) w2.heap.size xs c I w' h (by omega) (by omega)
        rw [hx] at G R
        generalize hit m I = h at *
        generalize gk m I = q at *
        generalize gv xs I = x at *
        have GG := Lib.hid G
        have RR := Lib.hid R
        have KK := Lib.hid (fun w => kind_any q hq.1 hq.2 w)
        clear G R hx
        go_wp2_with (first
          | (go_at_call 11
             refine GG.out.mono ?_
             rintro e w3 ⟨rfl, hs3, ht3⟩
             have LL3 := LL.turns ht3 (by omega)
             have k1 := LL3.cell 1
             have hr3 := hr0.turns ht3 (by omega) (by omega))
          | (go_at_call 12
             refine (RR.out _ hr3).mono ?_
             rintro e w4 ⟨rfl, hr4, ht4⟩
             have hs4 := hs3.turns ht4 (by omega) (by omega))
          | (go_at_call 10
             refine (KK.out _).mono ?_
             rintro e w5 ⟨rfl, hw5⟩))
        have hs5 := hs4.below hw5
        have hr5 := hr4.below hw5
        have hb5 := (((hw.trans (tw.below hw.size (fun _ h => h.elim))).trans (ht3.below (by have := hw.size; simp; omega) (fun i hi => by omega))).trans (ht4.below (by have := hw.size; have := ht3.size; simp at this; omega) (fun i hi => by omega))).trans (hw5.mono (by have := hw.size; have := ht3.size; have := ht4.size; simp at *; omega))
        have SZ := fun n : Nat => size_any p b xs (c + h) (w5.drewN n) (by exact hs5)
        rw [HX.out] at SZ
        have SS := Lib.hid SZ
        have k2 := hr5.tally
        clear SZ
        go_quiet ((first
          | (go_at_call 16; exact quiet_left (count_any p b xs (c + h) _ (by exact hs5)))
          | (go_at_call 17; exact quiet_left (SS.out _))))
        go_wp2
        go_roundw
        case rel => exact ⟨k + 1, p, b, xs, c + h, by omega, by go_num, rfl, by omega, by omega, ⟨HX.out, by exact hs5, by exact hr5, hne, hp1, hb1, hr1, hrb1⟩, below_drewN hb5 _⟩
        case measure => simp [intOf]; omega
      · have f1 : (K == 1) = false := by simpa using hK1
        clear hK1
        by_cases hK2 : K = 2
        · subst hK2
          have G := set_any p b xs c I V (wr.alloc (.cells #[.int .i64 2, .int .i64 I, .int .u64 V] 36)).drew (by exact hs0) (by omega) (by omega)
          have R := fun w' h => rset_any (w2.heap.size + 1) w2.heap.size xs c I V w' h (by omega) (by omega)
          have hy := (sv_length xs I V).trans hx
          rw [hx] at G R
          generalize hit m I = h at *
          generalize gk m I = q at *
          generalize sv xs I V = ys at *
          have GG := Lib.hid G
          have RR := Lib.hid R
          have KK := Lib.hid (fun w => kind_any q hq.1 hq.2 w)
          have HY := Lib.hid hy
          clear G R hx hy
          go_wp2_with fail
          go_region_held3 (fun w' => w'.cell? ⟨wr.heap.size, 1, none⟩ = some (.int .i64 I) ∧ w'.cell? ⟨wr.heap.size, 2, none⟩ = some (.int .u64 V)) (go_keep)
            ((first
              | (go_at_call 13
                 refine GG.out.mono ?_
                 rintro e w3 ⟨rfl, hs3, ht3⟩
                 have LL3 := Lies.turns (show Lies (wr.alloc (.cells #[.int .i64 2, .int .i64 I, .int .u64 V] 36)).drew wr.heap.size 36 [.int .i64 2, .int .i64 I, .int .u64 V] from LL) ht3 (by omega)
                 have k1 : w3.cell? ⟨wr.heap.size, 1, none⟩ = some (.int .i64 I) := LL3.cell 1
                 have k2 : w3.cell? ⟨wr.heap.size, 2, none⟩ = some (.int .u64 V) := LL3.cell 2
                 have hr3 := hr0.turns ht3.of_drew (by omega) (by omega))
              | (go_at_call 10
                 refine (KK.out _).mono ?_
                 rintro e w4 ⟨rfl, hw4⟩
                 have LL4 := LL3.below hw4 LL3.lt
                 have k3 : w4.cell? ⟨wr.heap.size, 1, none⟩ = some (.int .i64 I) := LL4.cell 1
                 have k4 : w4.cell? ⟨wr.heap.size, 2, none⟩ = some (.int .u64 V) := LL4.cell 2
                 have hs4 := hs3.below hw4
                 have hr4 := hr3.below hw4)
              | (go_at_call 14
                 refine (RR.out _ hr4).mono ?_
                 rintro e w5 ⟨rfl, hr5, ht5⟩
                 have LL5 := LL4.turns ht5 (by omega)
                 have k5 : w5.cell? ⟨wr.heap.size, 1, none⟩ = some (.int .i64 I) := LL5.cell 1
                 have k6 : w5.cell? ⟨wr.heap.size, 2, none⟩ = some (.int .u64 V) := LL5.cell 2
                 have hs5 := hs4.turns ht5 (by omega) (by omega))))
          go_wp2_with fail
          have ht3' := ht3.of_drew
          have hb5 := (((hw.trans (tw.below hw.size (fun _ h => h.elim))).trans (ht3'.below (by have := hw.size; simp; omega) (fun i hi => by omega))).trans (hw4.mono (by have := hw.size; have := ht3'.size; simp at *; omega))).trans (ht5.below (by have := hw.size; have := ht3'.size; have := hw4.size; simp at *; omega) (fun i hi => by omega))
          have SZ := fun n : Nat => size_any p b ys (c + h) (w5.drewN n) (by exact hs5)
          rw [HY.out] at SZ
          have SS := Lib.hid SZ
          have k9 := hr5.tally
          clear SZ
          go_quiet ((first
            | (go_at_call 16; exact quiet_left (count_any p b ys (c + h) _ (by exact hs5)))
            | (go_at_call 17; exact quiet_left (SS.out _))))
          go_wp2
          go_roundw
          case rel => exact ⟨k + 1, p, b, ys, c + h, by omega, by go_num, rfl, by omega, by omega, ⟨HY.out, by exact hs5, by exact hr5, hne, hp1, hb1, hr1, hrb1⟩, below_drewN hb5 _⟩
          case measure => simp [intOf]; omega
        · have f2 : (K == 2) = false := by simpa using hK2
          clear hK2
          have G := copy_any p b xs c _ hs0 (by omega)
          have R := fun w' h => set_any p b xs c 0 99 w' h (by omega) (by omega)
          have GG := Lib.hid G
          have RR := Lib.hid R
          clear G R hx
          go_wp2_with (first
            | (go_at_call 15
               refine GG.out.mono ?_
               rintro e w3 ⟨_, rfl, p2, b2, rfl, hs3, hp3, hb3, hw3⟩
               have ho3 := hs0.below hw3
               have hr3 := hr0.below hw3)
            | (go_at_call 13
               refine (RR.out _ ho3).mono ?_
               rintro e w4 ⟨rfl, ho4, ht4⟩
               have hs4 := hs3.turns ht4 (by simp at *; omega) (by simp at *; omega)
               have hr4 := hr3.turns ht4 (by omega) (by omega)))
          have hb4 := ((hw.trans (tw.below hw.size (fun _ h => h.elim))).trans (hw3.mono (by have := hw.size; simp; omega))).trans (ht4.below (by have := hw.size; have := hw3.size; simp at *; omega) (fun i hi => by omega))
          have SZ := fun n : Nat => size_any p2 b2 xs c (w4.drewN n) (by exact hs4)
          rw [HX.out] at SZ
          have SS := Lib.hid SZ
          have k9 := hr4.tally
          clear SZ
          go_quiet ((first
            | (go_at_call 16; exact quiet_left (count_any p2 b2 xs c _ (by exact hs4)))
            | (go_at_call 17; exact quiet_left (SS.out _))))
          go_wp2
          go_roundw
          case rel => exact ⟨k + 1, p2, b2, xs, c, by omega, by go_num, rfl, by omega, by omega, ⟨HX.out, by exact hs4, by exact hr4, by simp at *; omega, by have := hw.size; simp at *; omega, by have := hw.size; simp at *; omega, hr1, hrb1⟩, below_drewN hb4 _⟩
          case measure => simp [intOf]; omega
    · obtain rfl : k = l := by omega
      go_wp2_with fail
      go_ret
      exact ⟨rfl, hw⟩

theorem storePlays_walk (n : Int) (A : Option Addr) (l c : Nat) (Z : Nat → Nat → Int) (hm : l ≤ maxLen) (w : World) (hz : CameRows w [.i64, .i64, .u64] A l Z) :
    Calls Try.prog 3 #[.int .i64 n, .slice A l c] w fun e w' => e = .returned (.bool true) ∧ Below w.heap.size w w' := by
  by_cases h1 : 16384 < n ∧ n ≤ 1048576 ∨ 500 < l
  · exact storePlays_let n A l c h1 hm w
  · by_cases h2 : n < 0 ∨ 1048576 < n
    · exact storePlays_none n A l c h2 (by omega) w
    · obtain ⟨m, rfl⟩ := Int.eq_ofNat_of_zero_le (show 0 ≤ n by omega)
      exact storePlays_short m A l c Z (by omega) (by omega) w hz
end Go.Proofs.Ytbcmogokdkcneaa
