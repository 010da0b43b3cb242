/- The closed part of every law of layer 4; who stands behind a head; two lists that are the same. -/
import Derived.Test.YtnkfpnhifpblmaaRingCalls
import Derived.Test.YtnkfpnhifpblmaaStNew
import Derived.Test.YtnkfpnhifpblmaaInts
import Derived.BigQuiet
namespace Go.Proofs.Ytnkfpnhifpblmaa
open Go.ChangeShapes Go.WideShapes Go.ChangeAt Go.RowKit

theorem Had.made {w w' : World} {v : Value} {xs : List Int} (h : Fresh 51 w w' v xs 0) : ∃ p b, v = .pointer (some ⟨p, 0, none⟩) ∧ Had w' p b xs 0 ∧ w.heap.size ≤ p ∧ w.heap.size ≤ b ∧ Below w.heap.size w w' := by
  obtain ⟨p, b, hv, hs, hp, hb, hw⟩ := h
  exact ⟨p, b, hv, ⟨0, by omega, by omega, hs⟩, hp, hb, hw⟩
theorem had_new (n : Nat) (h : n ≤ 1048576) (w : World) :
    Calls Try.prog 6 #[.int .i64 n] w fun e w' => ∃ p b, e = .returned (.tuple #[.pointer (some ⟨p, 0, none⟩), .nilIface]) ∧ Had w' p b (List.replicate n 0) 0 ∧ w.heap.size ≤ p ∧ w.heap.size ≤ b ∧ Below w.heap.size w w' :=
  (new_yes n h w).mono fun e w' ⟨v, he, hv⟩ => by
    obtain ⟨p, b, hv, r⟩ := Had.made hv
    exact ⟨p, b, by rw [he, hv], r⟩

/-- the words of the closed part, step by step -/
def aw : Nat → List Int
  | 0 => [0, 0, 0, 0, 0, 0, 0, 0, 0, 0, 0, 0]
  | 1 => [0, 0, 0, 0, 0, 0, 0, 0, 0, 0, 0, 0]
  | 2 => [0, 0, 0, 0, 3, 3, 0, 0, 0, 0, 0, 0]
  | 3 => [0, 0, 0, 0, 3, 3, 0, 6, 6, 0, 0, 0]
  | 4 => [0, 0, 0, 0, 3, 3, 0, 6, 6, 0, 9, 9]
  | 5 => [0, 6, 6, 0, 3, 3, 0, 0, 0, 0, 9, 9]
  | 6 => [0, 6, 9, 0, 3, 3, 0, 9, 0, 0, 0, 6]
  | _ => [0, 0, 0, 0, 6, 9, 0, 9, 3, 0, 3, 6]
theorem pl_nat {n : Nat} {a : Int} (h : decide (0 ≤ a ∧ a + 2 < n ∧ a % 3 = 0) = true) : Pl n a := by
  unfold Pl
  exact of_decide_eq_true h

theorem aw_init (p b : Nat) (j : Nat) (w : World) (hj : j < 4) (hs : Had w p b (aw j) (2 * j)) :
    Calls Try.prog 8 #[.pointer (some ⟨p, 0, none⟩), .int .i64 (3 * j)] w fun e w' =>
      e = .returned .nilIface ∧ Had w' p b (aw (j + 1)) (2 * (j + 1)) ∧ Turns (fun k => k = p ∨ k = b) w w' := by
  have hj : j = 0 ∨ j = 1 ∨ j = 2 ∨ j = 3 := by omega
  rcases hj with rfl | rfl | rfl | rfl
  all_goals exact ring_Init p b _ _ _ w hs (by decide) (by decide) (pl_nat (by decide))

set_option maxHeartbeats 400000 in
theorem awake_any (w : World) :
    Calls Try.prog 7 #[] w fun e w' => e = .returned (.bool true) ∧ Below w.heap.size w w' := by
  have I1 := fun p b w h => ring_Insert p b (aw 4) 8 0 6 w h (by decide) (by decide) (pl_nat (by decide)) (pl_nat (by decide)) (pl_nat (by decide))
  rw [show ins (aw 4) 0 6 = aw 5 by decide] at I1
  have I2 := fun p b w h => ring_Insert p b (aw 5) 13 0 9 w h (by decide) (by decide) (pl_nat (by decide)) (pl_nat (by decide)) (pl_nat (by decide))
  rw [show ins (aw 5) 0 9 = aw 6 by decide] at I2
  have B1 := fun p b w h => ring_Behind p b (aw 6) 18 0 w h (by decide) (by decide) (pl_nat (by decide)) (pl_nat (by decide))
  rw [show gv (aw 6) (0 + 2) = 9 by decide] at B1
  have J := fun p b w h => ring_Join_yes p b (aw 6) 19 3 0 w h (by decide) (by decide) (pl_nat (by decide)) (pl_nat (by decide)) (pl_nat (by decide)) (pl_nat (by decide)) (pl_nat (by decide)) (by decide)
  rw [show joi (aw 6) 3 0 = aw 7 by decide] at J
  have B2 := fun p b w h => ring_Behind p b (aw 7) 29 9 w h (by decide) (by decide) (pl_nat (by decide)) (pl_nat (by decide))
  rw [show gv (aw 7) (9 + 2) = 6 by decide] at B2
  have B3 := fun p b w h => ring_Behind p b (aw 7) 30 6 w h (by decide) (by decide) (pl_nat (by decide)) (pl_nat (by decide))
  rw [show gv (aw 7) (6 + 2) = 3 by decide] at B3
  have A := fun p b w h => ring_Alone p b (aw 7) 31 0 w h (by decide) (by decide) (pl_nat (by decide)) (by decide)
  have II1 := Lib.hid I1
  have II2 := Lib.hid I2
  have BB1 := Lib.hid B1
  have JJ := Lib.hid J
  have BB2 := Lib.hid B2
  have BB3 := Lib.hid B3
  have AA := Lib.hid A
  clear I1 I2 B1 J B2 B3 A
  go_enter Try.func7, Try.ntmps7
  go_wp2_with (
    go_at_call 6
    refine (had_new 12 (by decide) _).mono ?_
    rintro e w1 ⟨p, b, rfl, hs1, hp, hb, hw1⟩)
  have L := Lies.made w1 3 #[.int .i64 0, .int .i64 3, .int .i64 6, .int .i64 9]
  have hs2 : Had (w1.alloc (.cells #[.int .i64 0, .int .i64 3, .int .i64 6, .int .i64 9] 3)) p b (aw 0) 0 := hs1.st ((Turns.refl (fun _ => False) _).alloc _) (fun h => h) (fun h => h) (Nat.le_refl _)
  have hb2 : Below w.heap.size w (w1.alloc (.cells #[.int .i64 0, .int .i64 3, .int .i64 6, .int .i64 9] 3)) := hw1.alloc hw1.size _
  have hlt := hs1.lt
  generalize hg : w1.heap.size = g at L
  go_loopw [22] (fun k wr => ∃ j : Nat, j ≤ 4 ∧ k = .int .i64 j ∧ Had wr p b (aw j) (2 * j) ∧ Lies wr g 3 [.int .i64 0, .int .i64 3, .int .i64 6, .int .i64 9] ∧ Below w.heap.size w wr) (fun k _ => 4 - (intOf k).toNat)
  case atStart => exact ⟨0, by omega, rfl, hs2, L, hb2⟩
  case round =>
    obtain ⟨j, hj, rfl, hs3, L3, hb3⟩ := hrel
    by_cases hj4 : j < 4
    · have c : wr.cell? ⟨g, j, none⟩ = some (.int .i64 (3 * j)) := by
        rw [L3.cell]
        have : j = 0 ∨ j = 1 ∨ j = 2 ∨ j = 3 := by omega
        rcases this with rfl | rfl | rfl | rfl <;> rfl
      go_wp2_with (
        go_at_call 8
        refine (aw_init p b j _ hj4 hs3).mono ?_
        rintro e w4 ⟨rfl, hs4, ht4⟩)
      go_roundw
      case rel => exact ⟨j + 1, by omega, by go_num, hs4, L3.turns ht4 (by omega), hb3.trans (ht4.below hb3.size (fun i hi => by omega))⟩
      case measure => simp [intOf]; omega
    · obtain rfl : j = 4 := by omega
      go_wp2_with (first
        | (go_at_call 12
           (with_reducible refine (II1.out _ _ _ hs3).mono ?_)
           rintro e w4 ⟨rfl, hs4, ht4⟩)
        | (go_at_call 12
           (with_reducible refine (II2.out _ _ _ hs4).mono ?_)
           rintro e w5 ⟨rfl, hs5, ht5⟩)
        | (go_at_call 15
           (with_reducible refine (BB1.out _ _ _ hs5).mono ?_)
           rintro e w6 ⟨rfl, hs6, ht6⟩)
        | (go_at_call 9
           (with_reducible refine (JJ.out _ _ _ hs6).mono ?_)
           rintro e w7 ⟨rfl, hs7, ht7⟩)
        | (go_at_call 15
           (with_reducible refine (BB2.out _ _ _ hs7).mono ?_)
           rintro e w8 ⟨rfl, hs8, ht8⟩)
        | (go_at_call 15
           (with_reducible refine (BB3.out _ _ _ hs8).mono ?_)
           rintro e w9 ⟨rfl, hs9, ht9⟩)
        | (go_at_call 11
           (with_reducible refine (AA.out _ _ _ hs9).mono ?_)
           rintro e w10 ⟨rfl, hs10, ht10⟩))
      go_ret
      exact ⟨rfl, hb3.trans (((((((ht4.trans ht5).trans (ht6.mono fun _ _ e => .inl e)).trans ht7).trans (ht8.mono fun _ _ e => .inl e)).trans (ht9.mono fun _ _ e => .inl e)).trans (ht10.mono fun _ _ e => .inl e)).below hb3.size (fun i hi => by omega))⟩

theorem Path.at_ {xs : List Int} : ∀ {l : List Int} {a z : Int}, Path xs a l z → ∀ j, j < l.length + 1 → Lk xs ((a :: l).getD j 0) ((l ++ [z]).getD j 0)
  | [], a, z, h, j, hj => by
    obtain rfl : j = 0 := by simpa using hj
    exact h
  | x :: l, a, z, h, 0, _ => h.1
  | x :: l, a, z, h, j + 1, hj => by
    have := Path.at_ h.2 j (by simpa using hj)
    simpa using this

/-- two slices that hold the same -/
theorem same_any (B1 B2 : Nat) (v1 v2 : Value) (l : List Int) (w : World) (h1 : Own w B1 v1 l) (h2 : Own w B2 v2 l) (hl : l.length ≤ 1000000) :
    Calls Try.prog 14 #[v1, v2] w fun e w' => e = .returned (.bool true) ∧ ∃ m, w' = w.drewN m := by
  obtain ⟨A1, c1, rfl, r1⟩ := h1.read
  obtain ⟨A2, c2, rfl, r2⟩ := h2.read
  clear h1 h2
  have R1 := Lib.hid r1
  have R2 := Lib.hid r2
  clear r1 r2
  generalize l.length = n at *
  go_enter Try.func14, Try.ntmps14
  go_wp2_with fail
  go_loopw [13] (fun k wr => ∃ j m : Nat, j ≤ n ∧ k = .int .i64 j ∧ wr = w.drewN m) (fun k _ => n - (intOf k).toNat)
  case atStart => exact ⟨0, 0, by omega, rfl, rfl⟩
  case round =>
    obtain ⟨j, m, hj, rfl, rfl⟩ := hrel
    by_cases hjn : j < n
    · obtain ⟨g1, rfl, -, -, d1⟩ := R1.out j hjn
      obtain ⟨g2, rfl, -, -, d2⟩ := R2.out j hjn
      generalize l.getD j 0 = x at *
      go_wp2
      go_quiet (fail)
      go_wp2
      go_roundw
      case rel => exact ⟨j + 1, _, by omega, by go_num, rfl⟩
      case measure => simp [intOf]; omega
    · obtain rfl : j = n := by omega
      go_wp2_with fail
      go_ret
      exact ⟨rfl, _, rfl⟩

/-- a ring without its first members, as a list: what stands at each place -/
theorem ring_at {xs : List Int} {l : List Int} {k : Int} (h : Path xs k l k) (hpl : ∀ u ∈ k :: l, Pl xs.length u) (j : Nat) (hj : j ≤ l.length) :
    Pl xs.length ((k :: l).getD j 0) ∧ gv xs ((k :: l).getD j 0 + 2) = (l ++ [k]).getD j 0 ∧ gv xs ((l ++ [k]).getD j 0 + 1) = (k :: l).getD j 0 ∧ Pl xs.length ((l ++ [k]).getD j 0) := by
  have hm1 : (k :: l).getD j 0 ∈ k :: l := by
    rw [List.getD_eq_getElem?_getD, List.getElem?_eq_getElem (show j < (k :: l).length by simp; omega)]
    exact List.getElem_mem _
  have hm2 : (l ++ [k]).getD j 0 ∈ k :: l := by
    have : (l ++ [k]).getD j 0 ∈ l ++ [k] := by
      rw [List.getD_eq_getElem?_getD, List.getElem?_eq_getElem (show j < (l ++ [k]).length by simp; omega)]
      exact List.getElem_mem _
    simp at this ⊢
    exact this.symm
  have hat := h.at_ j (by omega)
  exact ⟨hpl _ hm1, hat.1, hat.2, hpl _ hm2⟩

set_option maxHeartbeats 400000 in
theorem around_any (p b : Nat) (xs : List Int) (K : Nat) (k : Int) (most : Nat) (l : List Int) (w : World) (hs : Had w p b xs K) (hK : K ≤ 100000000) (hn : xs.length ≤ 1048576) (hp : Path xs k l k) (hnd : (k :: l).Nodup)
    (hpl : ∀ u ∈ k :: l, Pl xs.length u) (hl : l.length ≤ most) (hm : most ≤ 1000) :
    Calls Try.prog 13 #[.pointer (some ⟨p, 0, none⟩), .int .i64 k, .int .i64 most] w fun e w' =>
      ∃ v, e = .returned (.tuple #[v, .bool true]) ∧ Own w' w.heap.size v l ∧ Had w' p b xs (K + 2 * most + 2) ∧ Turns (· = p) w w' := by
  have hlt := hs.lt
  go_enter Try.func13, Try.ntmps13
  go_wp2_with fail
  go_loopw [8, 9, 17] (fun o at_ c wr => ∃ j : Nat, j ≤ l.length ∧ c = .int .i64 j ∧ at_ = .int .i64 ((k :: l).getD j 0) ∧ Own wr w.heap.size o (l.take j) ∧ Had wr p b xs (K + 2 * j) ∧ Turns (· = p) w wr) (fun _ _ c _ => most + 1 - (intOf c).toNat)
  case atStart => exact ⟨0, by omega, rfl, by simp, by simpa using Own.none_ w w.heap.size, hs, Turns.refl _ _⟩
  case round =>
    obtain ⟨j, hj, rfl, rfl, hown, hs1, ht1⟩ := hrel
    obtain ⟨q1, q2, q3, q4⟩ := ring_at hp hpl j hj
    have B := ring_Behind p b xs (K + 2 * j) ((k :: l).getD j 0) wr hs1 (by omega) hn q1 (by rw [q2]; exact q4)
    have A := fun w2 h2 => ring_Ahead p b xs (K + 2 * j + 1) ((l ++ [k]).getD j 0) w2 h2 (by omega) hn q4 (by rw [q3]; exact q1)
    rw [q2] at B
    rw [q3] at A
    have BB := Lib.hid B
    have AA := Lib.hid A
    have hnx : (k :: l).getD (j + 1) 0 = l.getD j 0 := by simp
    clear B A q1 q2 q3 q4
    by_cases hjl : j < l.length
    · have hx : (l ++ [k]).getD j 0 = l.getD j 0 := by
        rw [List.getD_eq_getElem?_getD, List.getElem?_append_left hjl, ← List.getD_eq_getElem?_getD]
      have hmem : l.getD j 0 ∈ l := by
        rw [List.getD_eq_getElem?_getD, List.getElem?_eq_getElem hjl]
        exact List.getElem_mem _
      have hne : (l.getD j 0 == k) = false := by
        have := (List.nodup_cons.1 hnd).1
        simpa using fun e : l.getD j 0 = k => this (e ▸ hmem)
      have htk : l.take (j + 1) = l.take j ++ [l.getD j 0] := by
        rw [List.take_succ_eq_append_getElem hjl, List.getD_eq_getElem?_getD, List.getElem?_eq_getElem hjl]
        rfl
      rw [hx] at BB AA
      have HT := Lib.hid htk
      have HN := Lib.hid hnx
      have hlen : (l.take j).length ≤ 1000 := by rw [List.length_take]; omega
      generalize (k :: l).getD j 0 = u at *
      generalize l.getD j 0 = x at *
      generalize l.take j = lj at *
      clear htk hx hnx hmem
      go_wp2_with (first
        | (at_builtin
           refine wpList_append_ints (v := u8) (x := .slice (some ⟨w3.heap.size, 0, none⟩) 1 1) rfl _ _ 31 rfl Try.underlying31 rfl rfl (hown3.turns ((Turns.refl (fun _ => False) _).alloc _) (fun _ _ h => h)) (Own.one (B := w3.heap.size) w3 x (Nat.le_refl _)) (by simp; omega) (by have := ht1.size; have := ht2.size; have := ht3.size; simp; omega) ?_
           intro v5 w5 hown5 hgrow5 hat5)
        | (go_at_call 15
           refine BB.out.mono ?_
           rintro e w2 ⟨rfl, hs2, ht2⟩)
        | (go_at_call 16
           refine (AA.out _ hs2).mono ?_
           rintro e w3 ⟨rfl, hs3, ht3⟩
           have hown3 := hown.turns (ht2.trans ht3) (fun g hg e => by have := (hown.lt g hg).1; omega)))
      have ht5 : Turns (fun i => w.heap.size ≤ i) w3 w5 := ((Turns.refl _ _).alloc _).grown hgrow5 (fun i hi _ => (hown3.lt i hi).1)
      have hs5 := hs3.st ht5 (by omega) (by omega) (Nat.le_refl _)
      rw [← HT.out] at hown5
      go_roundw
      case rel => exact ⟨j + 1, by omega, by go_num, by rw [HN.out], hown5, hs5, ((ht1.trans ht2).trans ht3).then ht5 (fun i hi h => by omega)⟩
      case measure => simp [intOf]; omega
    · obtain rfl : j = l.length := by omega
      have hx : (l ++ [k]).getD l.length 0 = k := by simp
      rw [hx] at BB AA
      rw [List.take_length] at hown
      generalize (k :: l).getD l.length 0 = u at *
      clear hx hnx
      go_wp2_with (first
        | (go_at_call 15
           refine BB.out.mono ?_
           rintro e w2 ⟨rfl, hs2, ht2⟩)
        | (go_at_call 16
           refine (AA.out _ hs2).mono ?_
           rintro e w3 ⟨rfl, hs3, ht3⟩))
      go_ret2
      exact ⟨_, rfl, hown.turns (ht2.trans ht3) (fun g hg e => by have := (hown.lt g hg).1; omega), hs3.st (Turns.refl (fun _ => False) _) (fun h => h) (fun h => h) (by omega), (ht1.trans ht2).trans ht3⟩
end Go.Proofs.Ytnkfpnhifpblmaa
