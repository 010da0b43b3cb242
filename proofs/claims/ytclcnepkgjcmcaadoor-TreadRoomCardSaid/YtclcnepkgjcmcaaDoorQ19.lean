/- What the heap's own reads and writes give. -/
import Derived.Test.YtclcnepkgjcmcaaDoorQ4
import Derived.LoopTactic
import Derived.Outline
import Derived.Test.YtclcnepkgjcmcaaDoorQ5
import Derived.Test.YtclcnepkgjcmcaaDoorQ7
import Derived.Deep.RegionHeld3
import Derived.Deep.RegionWith
namespace Go.Proofs.YtclcnepkgjcmcaaDoor
open Go.ChangeShapes Go.WideShapes Go.ChangeAt Go.RowKit

def qln : Q4 := ⟨3, 7, 31, 127⟩
/-- a quiet call within a quiet region -/
theorem quiet_left {P : Program} {f : FuncId} {args : Array Value} {w : World} {n : Nat} {v : Value}
    (h : Calls P f args (w.drewN n) fun e w' => e = .returned v ∧ w.drewN n = w') : Calls P f args (w.drewN n) fun e w'' => e = .returned v ∧ ∃ m, w'' = w.drewN m :=
  h.mono fun _ _ ⟨he, hm⟩ => ⟨he, n, hm.symm⟩
theorem quiet_add_left {P : Program} {f : FuncId} {args : Array Value} {w : World} {a n : Nat} {v : Value}
    (h : Calls P f args (w.drewN (a + n)) fun e w' => e = .returned v ∧ w.drewN (a + n) = w') :
    Calls P f args (w.drewN (a + n)) fun e w'' => e = .returned v ∧ ∃ m, w'' = w.drewN (a + m) :=
  h.mono fun _ _ ⟨he, hm⟩ => ⟨he, n, hm.symm⟩
theorem qln_at (i : Nat) (hi : i < 4) : qln.at_ i = ln i - 3 := by rcases lt4 hi with rfl | rfl | rfl | rfl <;> rfl
theorem Tab.four {w : World} (h : Tab w) : w.cell? ⟨0, 0, none⟩ = some (.int .i64 3) ∧ w.cell? ⟨0, 1, none⟩ = some (.int .i64 7) ∧ w.cell? ⟨0, 2, none⟩ = some (.int .i64 31) ∧ w.cell? ⟨0, 3, none⟩ = some (.int .i64 127) :=
  ⟨h.2 0 (by omega), h.2 1 (by omega), h.2 2 (by omega), h.2 3 (by omega)⟩
theorem index_four (q : Q4) (i : Nat) (hi : i < 4) (w : World) :
    (Instr.index 27 (.agg #[.int .i64 q.a, .int .i64 q.b, .int .i64 q.c, .int .i64 q.d]) (.int .i64 (i : Int))).run Tryd.prog w = .ok (.int .i64 (q.at_ i)) w := by
  rcases lt4 hi with rfl | rfl | rfl | rfl <;> kernel_rfl

set_option maxRecDepth 100000 in
theorem class_any (n : Int) (w : World) (ht : Tab w) :
    Calls Tryd.prog 19 #[.int .i64 n] w fun e w' => e = .returned (.int .i64 (cl1 n)) ∧ w = w' := by
  obtain ⟨t0, t1, t2, t3⟩ := ht.four
  clear ht
  by_cases h0 : n < 0
  · have HH := Lib.hid (show (-1 : Int) = cl1 n by rw [cl1, if_pos h0])
    go_enter Tryd.func19, Tryd.ntmps19
    go_wp2
    go_ret
    exact ⟨ret_i HH.out, rfl⟩
  · go_enter Tryd.func19, Tryd.ntmps19
    go_wp2
    go_loop [8] (fun c => ∃ i : Nat, i ≤ 4 ∧ c = .int .i64 i ∧ (0 < i → ln (i - 1) - 3 < n)) (fun c => 4 - (intOf c).toNat)
    case atStart => exact ⟨0, by omega, rfl, by omega⟩
    case round =>
      obtain ⟨i, hi, rfl, hn⟩ := hrel
      by_cases h4 : i < 4
      · have hx : ∀ w, (Instr.index 27 (.agg #[.int .i64 3, .int .i64 7, .int .i64 31, .int .i64 127]) (.int .i64 (i : Int))).run Tryd.prog w = .ok (.int .i64 (ln i - 3)) w := by
          rw [← qln_at i h4]
          exact index_four qln i h4
        by_cases hle : n ≤ ln i - 3
        · have HH : Hid ((i : Int) = cl1 n) := by
            unfold Hid cl1 cln
            rcases lt4 h4 with rfl | rfl | rfl | rfl <;> simp [ln] at hle hn ⊢ <;> (repeat' split) <;> omega
          go_wp2
          go_ret
          exact ⟨ret_i HH.out, rfl⟩
        · have hlt : ln i - 3 < n := by omega
          go_wp2
          go_round
          case rel => exact ⟨i + 1, by omega, by go_num, fun _ => by rw [Nat.add_sub_cancel]; exact hlt⟩
          case measure => simp [intOf]; omega
      · obtain rfl : i = 4 := by omega
        have HH : Hid ((-1 : Int) = cl1 n) := by
          unfold Hid cl1
          simp [ln] at hn
          rw [if_neg (by omega), if_neg (by omega)]
        go_wp2
        go_ret
        exact ⟨ret_i HH.out, rfl⟩

section
variable {G : Geo} {H : Hp} {q p b : Nat}

theorem hget_any (i : Int) (w : World) (h : Tr w q p b G H) (hi : inside H.ws.length i = true) :
    Calls Tryd.prog 52 #[.pointer (some ⟨q, 0, none⟩), .int .i64 i] w fun e w' => e = .returned (.int .u64 (gv H.ws i)) ∧ Tr w' q p b G H ∧ Turns (· = p) w w' := by
  have c0 := h.ptr
  have GG := Lib.hid (get_in p b H.ws i w h.words hi)
  have T := Lib.hid (fun w' (k : Turns (· = p) w w') hs => h.stored' k hs)
  clear h hi
  go_enter Tryd.func52, Tryd.ntmps52
  go_wp2_with (
    go_at_call 75
    refine GG.out.mono ?_
    rintro e w1 ⟨rfl, hs1, ht1⟩)
  go_ret
  exact ⟨rfl, T.out _ ht1 hs1, ht1⟩
theorem hset_any (i v : Int) (w : World) (h : Tr w q p b G H) (hi : inside H.ws.length i = true) :
    Calls Tryd.prog 55 #[.pointer (some ⟨q, 0, none⟩), .int .i64 i, .int .u64 v] w fun e w' => e = .returned (.tuple #[]) ∧ Tr w' q p b G { H with ws := sv H.ws i v } ∧ Turns (fun k => k = p ∨ k = b) w w' := by
  have c0 := h.ptr
  have GG := Lib.hid (set_in p b H.ws i v w h.words hi)
  have T := Lib.hid (fun w' ws (k : Turns (fun k => k = p ∨ k = b) w w') hs => h.stored (ws := ws) k hs)
  clear h hi
  go_enter Tryd.func55, Tryd.ntmps55
  go_wp2_with (
    go_at_call 42
    refine GG.out.mono ?_
    rintro e w1 ⟨rfl, hs1, ht1⟩)
  go_end0
  exact ⟨rfl, T.out _ _ ht1 hs1, ht1⟩
theorem mark_any (i : Int) (w : World) (h : Tr w q p b G H) (hi : inside H.ws.length i = true) :
    Calls Tryd.prog 67 #[.pointer (some ⟨q, 0, none⟩), .int .i64 i] w fun e w' => e = .returned (.int .u64 (gv H.ws i)) ∧ Tr w' q p b G H ∧ Turns (· = p) w w' := by
  have GG := Lib.hid (hget_any i w h hi)
  clear h hi
  go_enter Tryd.func67, Tryd.ntmps67
  go_wp2_with (
    go_at_call 52
    refine GG.out.mono ?_
    rintro e w1 ⟨rfl, hs1, ht1⟩)
  go_ret
  exact ⟨rfl, hs1, ht1⟩

/-- a cycle's number that leaves room for marks -/
def Hp.inTime (H : Hp) : Prop := 0 ≤ H.cyc ∧ H.cyc ≤ 1000000000
theorem Hp.inTime.next {H : Hp} (h : H.inTime) : 0 ≤ H.next ∧ H.next ≤ 1000000002 := by
  obtain ⟨h0, h1⟩ := h
  unfold Hp.next
  split <;> omega

theorem next_any (w : World) (h : Tr w q p b G H) (hc : H.inTime) :
    Calls Tryd.prog 63 #[.pointer (some ⟨q, 0, none⟩)] w fun e w' => e = .returned (.int .i64 H.next) ∧ w = w' := by
  have c8 : w.cell? ⟨q, 20, none⟩ = some (.bool H.mrk) := h.here.cell 20
  have c9 : w.cell? ⟨q, 21, none⟩ = some (.int .i64 H.cyc) := h.here.cell 21
  obtain ⟨l0, l1⟩ := hc
  clear h
  unfold Hp.next
  cases hm : H.mrk
  all_goals
    rw [hm] at c8
    clear hm
    go_enter Tryd.func63, Tryd.ntmps63
    go_wp2
    go_ret
    exact ⟨rfl, rfl⟩
theorem isWhite_any (m : Int) (h0 : 0 ≤ m) (h1 : m < 18446744073709551616) (w : World) (h : Tr w q p b G H) (hc : H.inTime) :
    Calls Tryd.prog 68 #[.pointer (some ⟨q, 0, none⟩), .int .u64 m] w fun e w' => e = .returned (.bool (H.isWhite m)) ∧ ∃ k, w' = w.drewN k := by
  have c8 : w.cell? ⟨q, 20, none⟩ = some (.bool H.mrk) := h.here.cell 20
  have c9 : w.cell? ⟨q, 21, none⟩ = some (.int .i64 H.cyc) := h.here.cell 21
  obtain ⟨l0, l1⟩ := hc
  have hw1 : IntKind.i64.wrap (H.cyc + 1) = H.cyc + 1 := IntWalk.i64_in _ (by omega)
  have LL := Lib.hid (fun w => last_any m h0 h1 w)
  have E : Hid (H.isWhite m = (H.mrk && mlast m == H.cyc + 1)) := rfl
  clear h h0 h1
  generalize H.isWhite m = r at *
  generalize mlast m = l at *
  cases hm : H.mrk
  · rw [hm] at c8
    rw [hm] at E
    clear hm
    have hr : r = false := by rw [E.out]; rfl
    subst hr
    go_enter Tryd.func68, Tryd.ntmps68
    go_wp2
    go_quiet (fail)
    go_wp2
    go_ret
    exact ⟨rfl, _, rfl⟩
  · rw [hm] at c8
    rw [hm] at E
    clear hm
    have hr : r = (l == H.cyc + 1) := by rw [E.out]; rfl
    subst hr
    go_enter Tryd.func68, Tryd.ntmps68
    go_wp2
    go_quiet ((go_at_call 82; exact quiet_left (LL.out _)))
    go_wp2
    go_ret
    exact ⟨rfl, _, rfl⟩
end
end Go.Proofs.YtclcnepkgjcmcaaDoor

/- Where the cell stands that a word names. -/
namespace Go.Proofs.YtclcnepkgjcmcaaDoor
open Go.ChangeShapes Go.WideShapes Go.ChangeAt Go.RowKit

section
variable {G : Geo} {H : Hp} {q p b : Nat} {w : World}
theorem Tr.bases (h : Tr w q p b G H) : w.cell? ⟨q, 5, none⟩ = some (.int .i64 51) ∧ w.cell? ⟨q, 6, none⟩ = some (.int .i64 G.b1) ∧ w.cell? ⟨q, 7, none⟩ = some (.int .i64 G.b2) ∧ w.cell? ⟨q, 8, none⟩ = some (.int .i64 G.b3) :=
  ⟨h.here.cell 5, h.here.cell 6, h.here.cell 7, h.here.cell 8⟩
theorem plc_none {v : Int} (h : (WM.kd v == 2) = false) : G.plc v = (0, false) := by
  rw [Geo.plc, if_neg (by simpa using h)]
theorem plc_out {v : Int} (hk : WM.kd v = 2) (h : ∀ j, j < 4 → G.inCl j (WM.vl v) = false) : G.plc v = (0, false) := by
  rw [Geo.plc, if_pos hk, if_neg (by simp [h 0]), if_neg (by simp [h 1]), if_neg (by simp [h 2]), if_neg (by simp [h 3])]
theorem plc_at {v : Int} {i : Nat} (hi : i < 4) (hk : WM.kd v = 2) (h : ∀ j, j < i → G.inCl j (WM.vl v) = false) (h1 : G.inCl i (WM.vl v) = true) : G.plc v = (WM.vl v, (WM.vl v - G.bas.at_ i) % ln i == 0) := by
  rcases lt4 hi with rfl | rfl | rfl | rfl
  · rw [Geo.plc, if_pos hk, if_pos h1]
  · rw [Geo.plc, if_pos hk, if_neg (by simp [h 0]), if_pos h1]
  · rw [Geo.plc, if_pos hk, if_neg (by simp [h 0]), if_neg (by simp [h 1]), if_pos h1]
  · rw [Geo.plc, if_pos hk, if_neg (by simp [h 0]), if_neg (by simp [h 1]), if_neg (by simp [h 2]), if_pos h1]
theorem Geo.ok.num (g : G.ok) {i : Nat} (hi : i < 4) : 0 ≤ G.n.at_ i ∧ G.n.at_ i ≤ 4000 ∧ 51 ≤ G.bas.at_ i ∧ G.bas.at_ i ≤ 1048576 := by
  have l := g.lines
  obtain ⟨h0, h1, h2, h3, m0, m1, m2, m3, -, -, -⟩ := g
  rcases lt4 hi with rfl | rfl | rfl | rfl <;> simp [Q4.at_, Geo.bas] <;> omega

theorem drewn {w wr : World} {k : Nat} (h : wr = w.drewN k) (n : Nat) : wr.drewN n = w.drewN (k + n) := by rw [h, World.drewN_drewN]
set_option maxRecDepth 100000 in
theorem place_any (g : G.ok) (v : Int) (h0 : 0 ≤ v) (h1 : v < 18446744073709551616) (w : World) (h : Tr w q p b G H) :
    Calls Tryd.prog 65 #[.pointer (some ⟨q, 0, none⟩), .int .u64 v] w fun e w' => e = .returned (.tuple #[.int .i64 (G.plc v).1, .bool (G.plc v).2]) ∧ ∃ k, w' = w.drewN k := by
  have KK := Lib.hid (fun w => kind_any v h0 h1 w)
  cases hk : WM.kd v == 2
  · rw [plc_none hk]
    have hk' : (WM.kd v != 2) = true := by simpa using hk
    clear hk h
    generalize WM.kd v = x at *
    go_enter Tryd.func65, Tryd.ntmps65
    go_wp2_with (go_at_call 66; refine (KK.out _).mono ?_; rintro e w' ⟨rfl, rfl⟩)
    go_ret2
    exact ⟨rfl, 0, rfl⟩
  · have hk2 : WM.kd v = 2 := by simpa using hk
    have hk' : (WM.kd v != 2) = false := by simp [hk2]
    have VV := Lib.hid (fun w => value_any v h0 h1 w)
    obtain ⟨v0, v1, -⟩ := vl_cell h0 h1 hk2
    have PO := Lib.hid (plc_out (G := G) hk2)
    have PA := Lib.hid (fun i hi => plc_at (G := G) (i := i) hi hk2)
    have TT := Lib.hid (fun wr k (e : wr = w.drewN k) => (e ▸ h.drewN k : Tr wr q p b G H))
    obtain ⟨c5, c6, c7, c8⟩ := h.bases
    clear h hk hk2 h0 h1
    generalize WM.kd v = x at *
    generalize WM.vl v = B at *
    generalize G.plc v = r at *
    go_enter Tryd.func65, Tryd.ntmps65
    go_wp2_with (first | (go_at_call 66; refine (KK.out _).mono ?_; rintro e w' ⟨rfl, rfl⟩) | (go_at_call 80; refine (VV.out _).mono ?_; rintro e w' ⟨rfl, rfl⟩))
    go_loopw [19] (fun c wr => ∃ i : Nat, i ≤ 4 ∧ c = .int .i64 i ∧ (∀ j, j < i → G.inCl j B = false) ∧ ∃ k, wr = w.drewN k) (fun c _ => 4 - (intOf c).toNat)
    case atStart => exact ⟨0, by omega, rfl, fun _ h => absurd h (by omega), 0, rfl⟩
    case round =>
      obtain ⟨i, hi, rfl, hn, k, hk⟩ := hrel
      have HK := Lib.hid hk
      have hT := TT.out _ _ hk
      clear hk
      by_cases h4 : i < 4
      · have hx : ∀ w, (Instr.index 27 (.agg #[.int .i64 51, .int .i64 G.b1, .int .i64 G.b2, .int .i64 G.b3]) (.int .i64 (i : Int))).run Tryd.prog w = .ok (.int .i64 (G.bas.at_ i)) w := index_four G.bas i h4
        obtain ⟨n0, n1, s0, s1⟩ := g.num h4
        have l0 := ln_lo i
        have l1 := ln_hi i
        have LL := Lib.hid (fun n => length_any i h4 (wr.drewN n) (hT.drewN n).tab)
        have CI := hT.counts h4
        have i0 : (0 : Int) ≤ (i : Int) := by omega
        have i1 : (i : Int) < 4 := by omega
        have PI := Lib.hid (PA.out i h4 hn)
        have HI : Hid (G.inCl i B = decide (0 ≤ B - G.bas.at_ i ∧ B - G.bas.at_ i < G.n.at_ i * ln i)) := rfl
        have HN := Lib.hid hn
        clear hn hT
        generalize G.bas.at_ i = s at *
        generalize G.n.at_ i = n at *
        generalize ln i = l at *
        have hp0 : 0 ≤ n * l := Int.mul_nonneg n0 (by omega)
        have hp1 : n * l ≤ 520000 := Int.le_trans (Int.mul_le_mul n1 l1 (by omega) (by omega)) (by decide)
        have hw : IntKind.i64.wrap (n * l) = n * l := IntWalk.i64_in _ (by omega)
        by_cases a0 : B < s
        · have g1 : decide (s ≤ B) = false := by simpa using a0
          have g2 : decide (0 ≤ B - s) = false := by simp; omega
          have HF := Lib.hid (show G.inCl i B = false by rw [HI.out]; simp; omega)
          have HW := Lib.hid hw
          clear hp0 hp1 hw
          go_wp2
          go_quiet (fail)
          go_wp2
          go_roundw
          case rel => exact ⟨i + 1, by omega, by go_num, fun j hj => by
            rcases Nat.lt_succ_iff_lt_or_eq.1 hj with hj | rfl
            · exact HN.out j hj
            · exact HF.out, _, drewn HK.out _⟩
          case measure => simp [intOf]; omega
        · have a0' : s ≤ B := by omega
          have g1 : decide (s ≤ B) = true := by simpa using a0'
          have g2 : decide (0 ≤ B - s) = true := by simpa using a0'
          by_cases a1 : B - s < n * l
          · have g3 : decide (B - s < n * l) = true := by simpa using a1
            have HT := Lib.hid (PI.out (show G.inCl i B = true by rw [HI.out]; simp; omega))
            have he := Int.tmod_eq_emod_of_nonneg (b := l) (show 0 ≤ B - s by omega)
            have HE := Lib.hid he
            clear he
            go_wp2
            go_quiet ((go_at_call 28; exact quiet_left (LL.out _)))
            go_wp2
            go_quiet ((go_at_call 28; exact quiet_add_left (LL.out _)))
            go_wp2
            go_ret2
            rw [HT.out, ← HE.out]
            first | exact ⟨rfl, _, drewn HK.out _⟩ | exact ⟨rfl, _, drewn (drewn HK.out _) _⟩
          · have g3 : decide (B - s < n * l) = false := by simp; omega
            have HF := Lib.hid (show G.inCl i B = false by rw [HI.out]; simp; omega)
            go_wp2
            go_quiet ((go_at_call 28; exact quiet_left (LL.out _)))
            go_wp2
            go_roundw
            case rel => exact ⟨i + 1, by omega, by go_num, fun j hj => by
              rcases Nat.lt_succ_iff_lt_or_eq.1 hj with hj | rfl
              · exact HN.out j hj
              · exact HF.out, _, drewn HK.out _⟩
            case measure => simp [intOf]; omega
      · obtain rfl : i = 4 := by omega
        have HH := Lib.hid (PO.out hn)
        clear hn hT
        go_wp2
        go_ret2
        rw [HH.out]
        exact ⟨rfl, _, HK.out⟩
end
end Go.Proofs.YtclcnepkgjcmcaaDoor

/- Marks set, cells moved, shaded. -/
namespace Go.Proofs.YtclcnepkgjcmcaaDoor
open Go.ChangeShapes Go.WideShapes Go.ChangeAt Go.RowKit

section
variable {B : Int} {G : Geo} {H : Hp} {R : Nat → List Int} {q p b : Nat}

theorem Inv.inTime (i : Inv B G H R) : H.inTime := by
  have := i.bnd
  exact ⟨by omega, by omega⟩
/-- only the heap's own blocks turn -/
theorem own_of_p {w w' : World} (h : Turns (· = p) w w') : Turns (Own3 q p b) w w' := h.mono fun _ _ e => .inr (.inl e)
theorem own_of_pb {w w' : World} (h : Turns (fun k => k = p ∨ k = b) w w') : Turns (Own3 q p b) w w' := h.mono fun _ _ e => .inr e
theorem own_drewN (w : World) (n : Nat) : Turns (Own3 q p b) w (w.drewN n) := (Turns.refl _ _).drewN n
theorem own_set (w : World) (j : Nat) (v : Value) : Turns (Own3 q p b) w (w.setCell ⟨q, j, none⟩ v) := (Turns.refl _ _).setCell (fun _ => .inl rfl) v

theorem isBlack_any (m : Int) (h0 : 0 ≤ m) (h1 : m < 18446744073709551616) (w : World) (h : Tr w q p b G H) (hc : H.inTime) :
    Calls Tryd.prog 76 #[.pointer (some ⟨q, 0, none⟩), .int .u64 m] w fun e w' => e = .returned (.bool (H.isBlack m)) ∧ w = w' := by
  have NN := Lib.hid (next_any w h hc)
  have LL := Lib.hid (last_any m h0 h1 w)
  have TT := Lib.hid (task_any m h0 h1 w)
  have E : Hid (H.isBlack m = (mlast m == H.next && mtask m == 0)) := rfl
  have hb : (mlast m == H.next) = true ∨ (mlast m == H.next) = false := by cases (mlast m == H.next) <;> simp
  clear h h0 h1 hc
  generalize H.isBlack m = r at *
  generalize mlast m = l at *
  generalize mtask m = t at *
  generalize H.next = n at *
  rcases hb with hb | hb
  · have hr : r = (t == 0) := by rw [E.out, hb]; rfl
    subst hr
    go_enter Tryd.func76, Tryd.ntmps76
    go_wp2_with (first | (go_at_call 82; refine LL.out.mono ?_; rintro e w' ⟨rfl, rfl⟩) | (go_at_call 63; refine NN.out.mono ?_; rintro e w' ⟨rfl, rfl⟩) | (go_at_call 72; refine TT.out.mono ?_; rintro e w' ⟨rfl, rfl⟩))
    go_ret
    exact ⟨rfl, rfl⟩
  · have hr : r = false := by rw [E.out, hb]; rfl
    subst hr
    go_enter Tryd.func76, Tryd.ntmps76
    go_wp2_with (first | (go_at_call 82; refine LL.out.mono ?_; rintro e w' ⟨rfl, rfl⟩) | (go_at_call 63; refine NN.out.mono ?_; rintro e w' ⟨rfl, rfl⟩) | (go_at_call 72; refine TT.out.mono ?_; rintro e w' ⟨rfl, rfl⟩))
    go_ret
    exact ⟨rfl, rfl⟩

theorem setMark_any (x m t : Int) (w : World) (h : Tr w q p b G H) (hi : inside H.ws.length x = true) (m0 : 0 ≤ m) (m1 : m < 18446744073709551616) (t0 : 0 ≤ t) (t1 : t < 4) (hc : H.inTime) :
    Calls Tryd.prog 35 #[.pointer (some ⟨q, 0, none⟩), .int .i64 x, .int .u64 m, .int .i64 t] w fun e w' => e = .returned (.tuple #[]) ∧ Tr w' q p b G (H.setMark x m t) ∧ Turns (fun k => k = p ∨ k = b) w w' := by
  obtain ⟨n0, n1⟩ := hc.next
  have NN := Lib.hid (next_any w h hc)
  have WW := Lib.hid (with_any m t H.next m0 m1 t0 t1 n0 (by omega) w)
  have SS := Lib.hid (hset_any x (mwith m t H.next) w h hi)
  have E : Hid (({ H with ws := sv H.ws x (mwith m t H.next) } : Hp) = H.setMark x m t) := rfl
  clear h hi m0 m1 t0 t1 hc n0 n1
  generalize mwith m t H.next = y at *
  generalize H.next = n at *
  go_enter Tryd.func35, Tryd.ntmps35
  go_wp2_with (first | (go_at_call 63; refine NN.out.mono ?_; rintro e w' ⟨rfl, rfl⟩) | (go_at_call 62; refine WW.out.mono ?_; rintro e w' ⟨rfl, rfl⟩) | (go_at_call 55; refine SS.out.mono ?_; rintro e w1 ⟨rfl, hs1, ht1⟩))
  go_end0
  exact ⟨rfl, by rw [← E.out]; exact hs1, ht1⟩

theorem move_any (x at_ : Int) (w : World) (h : Tr w q p b G H) (k : MoveOk H.ws x at_) :
    Calls Tryd.prog 34 #[.pointer (some ⟨q, 0, none⟩), .int .i64 x, .int .i64 at_] w fun e w' => e = .returned (.tuple #[]) ∧ Tr w' q p b G (H.move x at_) ∧ Turns (fun k => k = p ∨ k = b) w w' := by
  have c0 := h.ptr
  have hl : (rem H.ws x).length = H.ws.length := rem_length _ _
  have RR := Lib.hid (ring_Remove p b H.ws x w h.words k.short k.pb k.p1 k.p2)
  have II := Lib.hid (fun w1 h1 => ring_Insert p b (rem H.ws x) at_ x w1 h1 (by rw [hl]; exact k.short) (by rw [hl]; exact k.pa) (by rw [hl]; exact k.pb) (by rw [hl]; exact k.px))
  have T1 := Lib.hid (fun w1 (k1 : Turns (fun k => k = p ∨ k = b) w w1) s1 => (h.stored (ws := rem H.ws x) k1 s1).ptr)
  have T2 := Lib.hid (fun w1 (k1 : Turns (fun k => k = p ∨ k = b) w w1) s1 => (h.stored (ws := ins (rem H.ws x) at_ x) k1 s1))
  have E : Hid (({ H with ws := ins (rem H.ws x) at_ x } : Hp) = H.move x at_) := rfl
  clear h k hl
  go_enter Tryd.func34, Tryd.ntmps34
  go_wp2_with (first
    | (go_at_call 61
       refine RR.out.mono ?_
       rintro e w1 ⟨rfl, hs1, ht1⟩
       have c1 := T1.out w1 ht1 hs1)
    | (go_at_call 59
       refine (II.out _ hs1).mono ?_
       rintro e w2 ⟨rfl, hs2, ht2⟩))
  go_end0
  exact ⟨rfl, by rw [← E.out]; exact T2.out _ (ht1.trans ht2) hs2, ht1.trans ht2⟩

theorem wait_any (x : Int) (w : World) (h : Tr w q p b G H) (k : WaitOk H.ws x) :
    Calls Tryd.prog 84 #[.pointer (some ⟨q, 0, none⟩), .int .i64 x] w fun e w' => e = .returned (.tuple #[]) ∧ Tr w' q p b G (H.wait x) ∧ Turns (fun k => k = p ∨ k = b) w w' := by
  have c0 := h.ptr
  have hl : (rem H.ws x).length = H.ws.length := rem_length _ _
  have RR := Lib.hid (ring_Remove p b H.ws x w h.words k.short k.pb k.p1 k.p2)
  have AA := Lib.hid (fun w1 h1 => ring_Ahead p b (rem H.ws x) (hd 12) w1 h1 (by rw [hl]; exact k.short) (by rw [hl]; exact k.ph) (by rw [hl]; exact k.pl))
  have II := Lib.hid (fun w1 h1 => ring_Insert p b (rem H.ws x) (gv (rem H.ws x) (hd 12 + 1)) x w1 h1 (by rw [hl]; exact k.short) (by rw [hl]; exact k.pl) (by rw [hl]; exact k.pb) (by rw [hl]; exact k.px))
  have T1 := Lib.hid (fun w1 (k1 : Turns (fun k => k = p ∨ k = b) w w1) s1 => (h.stored (ws := rem H.ws x) k1 s1).ptr)
  have T2 := Lib.hid (fun w1 (k1 : Turns (fun k => k = p ∨ k = b) w w1) s1 => (h.stored (ws := ins (rem H.ws x) (gv (rem H.ws x) (hd 12 + 1)) x) k1 s1))
  have E : Hid (({ H with ws := ins (rem H.ws x) (gv (rem H.ws x) (hd 12 + 1)) x } : Hp) = H.wait x) := rfl
  have HH := Lib.hid (fun w => head_any 12 (by omega) w)
  clear h k hl
  generalize gv (rem H.ws x) (hd 12 + 1) = y at *
  generalize ins (rem H.ws x) y x = zs at *
  generalize rem H.ws x = ys at *
  generalize hd 12 = d at *
  go_enter Tryd.func84, Tryd.ntmps84
  go_wp2_with (
    go_at_call 61
    refine RR.out.mono ?_
    rintro e w1 ⟨rfl, hs1, ht1⟩
    have c1 := T1.out w1 ht1 hs1)
  go_region_held3 (fun w' => w'.cell? ⟨q, 0, none⟩ = some (.pointer (some ⟨p, 0, none⟩))) (first | go_keep | exact c2)
    (first
      | (go_at_call 33
         refine (HH.out _).mono ?_
         rintro e w2 ⟨rfl, rfl⟩)
      | (go_at_call 79
         refine (AA.out _ hs1.drew).mono ?_
         rintro e w2 ⟨rfl, hs2, ht2⟩
         have t2 := ht1.trans (Turns.of_drew (ht2.mono fun _ _ e => .inl e))
         have c2 := T1.out w2 t2 hs2))
  go_wp2_with (
    go_at_call 59
    refine (II.out _ hs2).mono ?_
    rintro e w3 ⟨rfl, hs3, ht3⟩)
  go_end0
  exact ⟨rfl, by rw [← E.out]; exact T2.out _ (t2.trans ht3) hs3, t2.trans ht3⟩
end
end Go.Proofs.YtclcnepkgjcmcaaDoor
