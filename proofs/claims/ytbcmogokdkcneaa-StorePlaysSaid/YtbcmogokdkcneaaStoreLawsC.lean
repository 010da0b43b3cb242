/- The law of layer 3 on copies. -/
import Derived.Test.YtbcmogokdkcneaaStoreLawsB
namespace Go.Proofs.Ytbcmogokdkcneaa
open Go.ChangeShapes Go.WideShapes Go.ChangeAt Go.RowKit

theorem own_turns {w w' : World} {X : Nat → Prop} {base : Nat} {e : TypeId} {size : Nat} {v : Value} {n : Nat} {xs : List Value} (h : w.ownsRow base e size v n xs) (k : Turns X w w') (hx : ∀ g, v.ownBlock = some g → ¬ X g) :
    w'.ownsRow base e size v n xs := by
  have hlt := h.lt
  obtain ⟨h1, h2⟩ := h
  refine ⟨h1, ?_⟩
  rcases h2 with h2 | ⟨g, cap, cur, hv, hg, hh, r⟩
  · exact .inl h2
  · have ho : v.ownBlock = some g := by rw [hv]; rfl
    exact .inr ⟨g, cap, cur, hv, hg, (k.block g (hlt g ho).2 (hx g ho)).trans hh, r⟩

theorem take_word (xs : List Int) (q : Nat) (h : q < xs.length) : (xs.take q).map (Value.int .u64) ++ [.int .u64 (xs.getD q 0)] = (xs.take (q + 1)).map (Value.int .u64) := by
  rw [List.take_succ_eq_append_getElem h, List.map_append, List.getD_eq_getElem?_getD, List.getElem?_eq_getElem h]
  rfl

theorem St.below {T : TypeId} {w w' : World} {p b : Nat} {xs : List Int} {c : Int} (h : St T w p b xs c) (k : Below w.heap.size w w') : St T w' p b xs c := h.turns (Turns.of_below k (fun _ => False)) (fun h => h) (fun h => h)

/-- a read at a place below the size -/
theorem get_nat (p b : Nat) (xs : List Int) (c : Int) (m k : Nat) (w : World) (hm : xs.length = m) (hk : k < m) (hs : St 56 w p b xs c) (hc0 : 0 ≤ c) (hc1 : c ≤ 4611686018427387904) :
    Calls Try.prog 11 #[.pointer (some ⟨p, 0, none⟩), .int .i64 k] w fun e w' =>
      e = .returned (.tuple #[.int .u64 (xs.getD k 0), .nilIface]) ∧ St 56 w' p b xs (c + 1) ∧ Turns (· = p) w w' := by
  have H := get_in p b xs c k m w hm (inside_nat hk) hs hc0 hc1
  rw [gv_nat (by omega)] at H
  exact H
/-- a write, of whatever error -/
theorem set_some (p b : Nat) (xs : List Int) (c i v : Int) (m : Nat) (w : World) (hm : xs.length = m) (hs : St 56 w p b xs c) (hc0 : 0 ≤ c) (hc1 : c ≤ 4611686018427387903) :
    Calls Try.prog 13 #[.pointer (some ⟨p, 0, none⟩), .int .i64 i, .int .u64 v] w fun e w' =>
      ∃ k ys c', e = .returned (er k) ∧ ys.length = m ∧ 0 ≤ c' ∧ c' ≤ c + 1 ∧ St 56 w' p b ys c' ∧ Turns (fun k => k = p ∨ k = b) w w' := by
  have hh := hit_bd xs.length i
  exact (set_any p b xs c i v w hs hc0 (by omega)).mono fun e w' ⟨he, hs', ht⟩ => ⟨_, _, _, he, by rw [sv_length, hm], by omega, by omega, hs', ht⟩

set_option maxRecDepth 100000 in
set_option maxHeartbeats 400000 in
theorem storeCopies_long (n : Int) (A A2 : Option Addr) (l c l2 c2 : Nat) (hl : 300 < l ∨ l ≤ 300 ∧ 300 < l2) (hm : l ≤ maxLen) (hm2 : l2 ≤ maxLen) (w : World) :
    Calls Try.prog 7 #[.int .i64 n, .slice A l c, .slice A2 l2 c2] w fun e w' => e = .returned (.bool true) ∧ Below w.heap.size w w' := by
  unfold maxLen at hm hm2
  obtain ⟨m, hmm, hlt⟩ := small_mod n 200 (by omega) (by omega)
  have HM := Lib.hid hmm
  clear hmm
  rcases hl with hl | ⟨hl, hl2⟩
  all_goals
    go_enter Try.func7, Try.ntmps7
    go_wp2_with fail
    rw [HM.out]
    refine (new_yes m (by omega) _).mono ?_
    rintro e w1 ⟨_, rfl, p, b, rfl, hs1, hp, hb, hw1⟩
    go_wp2_with (
      go_at_call 8
      refine (awake_any _).mono ?_
      rintro e w2 ⟨rfl, hw2⟩
      replace hw1 := hw1.trans (hw2.mono hw1.size))
    go_ret
    exact ⟨rfl, hw1⟩

set_option maxRecDepth 100000 in
set_option maxHeartbeats 1000000 in
theorem storeCopies_short (n : Int) (A A2 : Option Addr) (l c l2 c2 : Nat) (zs zs2 : List Int) (hl : l ≤ 300) (hl2 : l2 ≤ 300) (w : World) (hz : Came w .i64 A l zs) (hz2 : Came w .i64 A2 l2 zs2) :
    Calls Try.prog 7 #[.int .i64 n, .slice A l c, .slice A2 l2 c2] w fun e w' => e = .returned (.bool true) ∧ Below w.heap.size w w' := by
  obtain ⟨m, hmm, hlt⟩ := small_mod n 200 (by omega) (by omega)
  have HM := Lib.hid hmm
  clear hmm
  obtain ⟨i0, hi, hz0, hz1, hz3⟩ := info_parts Try.infoU64
  go_enter Try.func7, Try.ntmps7
  go_wp2_with fail
  rw [HM.out]
  refine (new_yes m (by omega) _).mono ?_
  rintro e w1 ⟨_, rfl, p, b, rfl, hs1, hp, hb, hw1⟩
  go_wp2_with (
    go_at_call 8
    refine (awake_any _).mono ?_
    rintro e w2 ⟨rfl, hw2⟩)
  have hs2 := hs1.turns (Turns.of_below hw2 (fun _ => False)) (fun h => h) (fun h => h)
  have hb2 := hw1.trans (hw2.mono hw1.size)
  -- the writes
  go_loopw [53] (fun k wr => ∃ (k' : Nat) (xs : List Int) (c : Int), k' ≤ l ∧ k = .int .i64 k' ∧ xs.length = m ∧ 0 ≤ c ∧ c ≤ k' ∧ St 56 wr p b xs c ∧ Below w.heap.size w wr) (fun k _ => l - (intOf k).toNat)
  case atStart => exact ⟨0, _, 0, by omega, rfl, by simp, by omega, by omega, hs2, hb2⟩
  case round =>
    obtain ⟨k, xs, cc, hk, rfl, hx, hc0, hc1, hs, hw⟩ := hrel
    by_cases hkl : k < l
    · obtain ⟨g, off, rfl, hg, hcell⟩ := hz.at_ hw hkl
      generalize zs.getD k 0 = a at hcell
      have GG := Lib.hid (set_some p b xs cc a (k + 1) m _ hx hs (by omega) (by omega))
      clear hx
      go_wp2_with (
        go_at_call 13
        refine GG.out.mono ?_
        rintro e w3 ⟨q, ys, c', rfl, hy, h0, h1, hs3, ht3⟩)
      go_roundw
      case rel => exact ⟨k + 1, _, _, by omega, by go_num, hy, by omega, by omega, hs3, hw.trans (ht3.below hw.size (fun i hi => by omega))⟩
      case measure => simp [intOf]; omega
    · obtain rfl : k = l := by omega
      have HX := Lib.hid hx
      clear hx
      obtain ⟨hp2, hb2⟩ := hs.lt
      obtain ⟨wo, rfl⟩ : ∃ wo : World, wo = wr := ⟨_, rfl⟩
      go_wp2_with fail
      -- what the words were
      go_loopw [11, 66] (fun v k wr => ∃ (k' : Nat) (c : Int), k' ≤ m ∧ k = .int .i64 k' ∧ 0 ≤ c ∧ c ≤ 300 + k' ∧ wr.ownsRow wo.heap.size 34 1 v k' ((xs.take k').map (.int .u64)) ∧ wo.heap.size ≤ wr.heap.size ∧ St 56 wr p b xs c ∧ Below w.heap.size w wr) (fun _ k _ => m - (intOf k).toNat)
      case atStart => exact ⟨0, cc, by omega, rfl, by omega, by omega, by simpa using World.ownsRow_nil _ _ _ _, Nat.le_refl _, hs, hw⟩
      case round =>
        obtain ⟨q, c3, hq, rfl, hc30, hc31, hown, hsz, hs3, hw3⟩ := hrel
        by_cases hqm : q < m
        · have GG := Lib.hid (get_nat p b xs c3 m q _ HX.out hqm hs3 (by omega) (by omega))
          have HT := Lib.hid (take_word xs q (by rw [HX.out]; exact hqm))
          generalize xs.getD q 0 = xq at GG HT
          go_wp2_with (first
            | (at_builtin
               refine wpList_append_own_at _ rfl _ _ 31 rfl wo.heap.size 34 i0 (.int .u64 0) 1 8 Try.underlying31 hi hz0 hz1 hz3 rfl (by decide) u11 q _ rfl (hown4.alloc _) ⟨w4.heap.size, 0, none⟩ 1 1 [.int .u64 xq] rfl rfl (cell_one_new _ _ _) (by simp [Value.oneCell']) (by unfold maxLen; omega) (by omega) (by simp; omega) ?_
               intro v5 w5 hown5 hgrow5 _ hat5)
            | (go_at_call 11
               refine GG.out.mono ?_
               rintro e w4 ⟨rfl, hs4, ht4⟩
               have hown4 := own_turns hown ht4 (fun g hg h => by have := (hown.lt g hg).1; omega)
               have hz4 := ht4.size))
          have hr5 : Turns (fun i => wo.heap.size ≤ i) w4 w5 := ((Turns.refl _ _).alloc _).grown hgrow5 (fun i hi _ => (hown4.lt i hi).1)
          rw [HT.out] at hown5
          go_roundw
          case rel => exact ⟨q + 1, _, by omega, by go_num, by omega, by omega, hown5, Nat.le_trans (Nat.le_trans hsz hz4) hr5.size, hs4.turns hr5 (by omega) (by omega), hw3.trans ((ht4.below hw3.size (fun i hi => by omega)).trans (hr5.below (Nat.le_trans hw3.size hz4) (fun i hi => Nat.le_trans hw.size hi)))⟩
          case measure => simp [intOf]; omega
        · obtain rfl : q = m := by omega
          have hx' := HX.out
          rw [List.take_of_length_le (by omega)] at hown
          obtain ⟨hp3, hb3⟩ := hs3.lt
          have CC := Lib.hid (copy_any p b xs c3 _ hs3 (by omega))
          clear hx'
          obtain ⟨w6, rfl⟩ : ∃ w6 : World, w6 = wr := ⟨_, rfl⟩
          have hol : ∀ g, u11.ownBlock = some g → wo.heap.size ≤ g ∧ g < w6.heap.size := hown.lt
          have HOL := Lib.hid hol
          clear hol
          go_wp2_with (
            go_at_call 15
            refine CC.out.mono ?_
            rintro e w7 ⟨_, rfl, p2, b2, rfl, hs7, hp7, hb7, hw7⟩)
          have hs37 := hs3.below hw7
          have hown7 := own_turns hown (Turns.of_below hw7 (fun _ => False)) (fun _ _ h => h)
          have hb70 := hw3.trans (hw7.mono hw3.size)
          -- the writes to the copy
          go_loopw [84] (fun k wr => ∃ (k' : Nat) (ys : List Int) (c : Int), k' ≤ l2 ∧ k = .int .i64 k' ∧ ys.length = q ∧ 0 ≤ c ∧ c ≤ c3 + k' ∧ St 56 wr p2 b2 ys c ∧ St 56 wr p b xs c3 ∧ wr.ownsRow wo.heap.size 34 1 u11 q (xs.map (.int .u64)) ∧ Below w.heap.size w wr) (fun k _ => l2 - (intOf k).toNat)
          case atStart => exact ⟨0, _, _, by omega, rfl, HX.out, by omega, by omega, hs7, hs37, hown7, hb70⟩
          case round =>
            obtain ⟨k3, ys, c8, hk3, rfl, hy, hc80, hc81, hs8, hs38, hown8, hw8⟩ := hrel
            have HY := Lib.hid hy
            clear hy
            by_cases hkl3 : k3 < l2
            · obtain ⟨g, off, rfl, hg, hcell⟩ := hz2.at_ hw8 hkl3
              generalize zs2.getD k3 0 = a at hcell
              have GG := Lib.hid (set_some p2 b2 ys c8 a 99999 q _ HY.out hs8 (by omega) (by omega))
              go_wp2_with (
                go_at_call 13
                refine GG.out.mono ?_
                rintro e w9 ⟨q9, ys9, c9, rfl, hy9, h09, h19, hs9, ht9⟩)
              go_roundw
              case rel => exact ⟨k3 + 1, _, _, by omega, by go_num, hy9, by omega, by omega, hs9, hs38.turns ht9 (by omega) (by omega), own_turns hown8 ht9 (fun g hg => by have := HOL.out g hg; omega), hw8.trans (ht9.below hw8.size (fun i hi => by have := hw3.size; omega))⟩
              case measure => simp [intOf]; omega
            · obtain rfl : k3 = l2 := by omega
              go_wp2_with fail
              -- the words are what they were
              go_loopw [93] (fun k wr => ∃ (k' : Nat) (c : Int), k' ≤ q ∧ k = .int .i64 k' ∧ 0 ≤ c ∧ c ≤ c3 + k' ∧ St 56 wr p2 b2 ys c8 ∧ St 56 wr p b xs c ∧ wr.ownsRow wo.heap.size 34 1 u11 q (xs.map (.int .u64)) ∧ Below w.heap.size w wr) (fun k _ => q - (intOf k).toNat)
              case atStart => exact ⟨0, _, by omega, rfl, by omega, by omega, hs8, hs38, hown8, hw8⟩
              case round =>
                obtain ⟨k4, c4, hk4, rfl, hc40, hc41, hs84, hs34, hown84, hw84⟩ := hrel
                by_cases hkq : k4 < q
                · obtain ⟨g, cap, rfl, hg1, hg2⟩ := hown84.form (by omega)
                  have GG := Lib.hid (get_nat p b xs c4 q k4 _ HX.out hkq hs34 (by omega) (by omega))
                  have hcell : wr.cell? ⟨g, k4, none⟩ = some (.int .u64 (xs.getD k4 0)) := by
                    have hh := hown84.cells (g := g) rfl k4 (.int .u64 (xs.getD k4 0)) (by
                      have hx' := HX.out
                      rw [List.getElem?_map, List.getElem?_eq_getElem (show k4 < xs.length by omega), List.getD_eq_getElem?_getD, List.getElem?_eq_getElem (show k4 < xs.length by omega)]
                      rfl)
                    rwa [add_plain, Nat.zero_add] at hh
                  generalize xs.getD k4 0 = xq at GG hcell
                  have hcell' := fun (w' : World) (h : Turns (· = p) wr w') => (World.cell?_of_block (a := ⟨g, k4, none⟩) (h.block g hg2 (by omega))).trans hcell
                  have HC := Lib.hid hcell'
                  clear hcell hcell'
                  go_wp2_with (
                    go_at_call 11
                    refine GG.out.mono ?_
                    rintro e w9 ⟨rfl, hs9, ht9⟩
                    have hcell9 := HC.out w9 ht9)
                  go_roundw
                  case rel => exact ⟨k4 + 1, _, by omega, by go_num, by omega, by omega, hs84.turns ht9 (by omega) (by omega), hs9, own_turns hown84 ht9 (fun g' hg' => by have := HOL.out g' hg'; omega), hw84.trans (ht9.below hw84.size (fun i hi => by omega))⟩
                  case measure => simp [intOf]; omega
                · obtain rfl : k4 = q := by omega
                  have SZ := size_any p2 b2 ys c8 wr hs84
                  rw [HY.out] at SZ
                  go_wp2_with (
                    go_at_call 17
                    refine SZ.mono ?_
                    rintro e w' ⟨rfl, rfl⟩)
                  go_ret
                  exact ⟨rfl, hw84⟩

theorem storeCopies_walk (n : Int) (A A2 : Option Addr) (l c l2 c2 : Nat) (zs zs2 : List Int) (hm : l ≤ maxLen) (hm2 : l2 ≤ maxLen) (w : World) (hz : Came w .i64 A l zs) (hz2 : Came w .i64 A2 l2 zs2) :
    Calls Try.prog 7 #[.int .i64 n, .slice A l c, .slice A2 l2 c2] w fun e w' => e = .returned (.bool true) ∧ Below w.heap.size w w' := by
  by_cases hl : l ≤ 300 ∧ l2 ≤ 300
  · exact storeCopies_short n A A2 l c l2 c2 zs zs2 hl.1 hl.2 w hz hz2
  · exact storeCopies_long n A A2 l c l2 c2 (by omega) hm hm2 w
end Go.Proofs.Ytbcmogokdkcneaa
