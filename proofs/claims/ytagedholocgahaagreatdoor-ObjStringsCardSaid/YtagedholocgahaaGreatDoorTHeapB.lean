/- What the heap's own reads and writes give. -/
import Derived.Test.YtagedholocgahaaGreatDoorTHeap
import Derived.LoopTactic
import Derived.Outline
namespace Go.Proofs.YtagedholocgahaaGreatDoor
open Go.ChangeShapes Go.WideShapes Go.ChangeAt Go.RowKit

def qln : Q4 := ⟨3, 7, 31, 127⟩
/-- a quiet call within a quiet region -/
theorem quiet_left {P : Program} {f : FuncId} {args : Array Value} {w : World} {n : Nat} {v : Value}
    (h : Calls P f args (w.drewN n) fun e w' => e = .returned v ∧ w.drewN n = w') : Calls P f args (w.drewN n) fun e w'' => e = .returned v ∧ ∃ m, w'' = w.drewN m :=
  h.mono fun _ _ ⟨he, hm⟩ => ⟨he, n, hm.symm⟩
theorem quiet_add_left {P : Program} {f : FuncId} {args : Array Value} {w : World} {a n : Nat} {v : Value}
    (h : Calls P f args (w.drewN (a + n)) fun e w' => e = .returned v ∧ w.drewN (a + n) = w') :
    Calls P f args (w.drewN (a + n)) fun e w'' => e = .returned v ∧ ∃ m, w'' = w.drewN (a + m) :=
  h.mono fun _ _ ⟨he, hm⟩ => ⟨he, n, hm.symm⟩
theorem qln_at (i : Nat) (hi : i < 4) : qln.at_ i = ln i - 3 := by rcases lt4 hi with rfl | rfl | rfl | rfl <;> rfl
theorem Tab.four {w : World} (h : Tab w) : w.cell? ⟨0, 0, none⟩ = some (.int .i64 3) ∧ w.cell? ⟨0, 1, none⟩ = some (.int .i64 7) ∧ w.cell? ⟨0, 2, none⟩ = some (.int .i64 31) ∧ w.cell? ⟨0, 3, none⟩ = some (.int .i64 127) :=
  ⟨h.2 0 (by omega), h.2 1 (by omega), h.2 2 (by omega), h.2 3 (by omega)⟩
theorem index_four (q : Q4) (i : Nat) (hi : i < 4) (w : World) :
    (Instr.index 22 (.agg #[.int .i64 q.a, .int .i64 q.b, .int .i64 q.c, .int .i64 q.d]) (.int .i64 (i : Int))).run Tryz.prog w = .ok (.int .i64 (q.at_ i)) w := by
  rcases lt4 hi with rfl | rfl | rfl | rfl <;> kernel_rfl

set_option maxRecDepth 100000 in
theorem class_any (n : Int) (w : World) (ht : Tab w) :
    Calls Tryz.prog 49 #[.int .i64 n] w fun e w' => e = .returned (.int .i64 (cl1 n)) ∧ w = w' := by
  obtain ⟨t0, t1, t2, t3⟩ := ht.four
  clear ht
  by_cases h0 : n < 0
  · have HH := Lib.hid (show (-1 : Int) = cl1 n by rw [cl1, if_pos h0])
    go_enter Tryz.func49, Tryz.ntmps49
    go_wp2
    go_ret
    exact ⟨ret_i HH.out, rfl⟩
  · go_enter Tryz.func49, Tryz.ntmps49
    go_wp2
    go_loop [8] (fun c => ∃ i : Nat, i ≤ 4 ∧ c = .int .i64 i ∧ (0 < i → ln (i - 1) - 3 < n)) (fun c => 4 - (intOf c).toNat)
    case atStart => exact ⟨0, by omega, rfl, by omega⟩
    case round =>
      obtain ⟨i, hi, rfl, hn⟩ := hrel
      by_cases h4 : i < 4
      · have hx : ∀ w, (Instr.index 22 (.agg #[.int .i64 3, .int .i64 7, .int .i64 31, .int .i64 127]) (.int .i64 (i : Int))).run Tryz.prog w = .ok (.int .i64 (ln i - 3)) w := by
          rw [← qln_at i h4]
          exact index_four qln i h4
        by_cases hle : n ≤ ln i - 3
        · have HH : Hid ((i : Int) = cl1 n) := by
            unfold Hid cl1 cln
            rcases lt4 h4 with rfl | rfl | rfl | rfl <;> simp [ln] at hle hn ⊢ <;> (repeat' split) <;> omega
          go_wp2
          go_ret
          exact ⟨ret_i HH.out, rfl⟩
        · have hlt : ln i - 3 < n := by omega
          go_wp2
          go_round
          case rel => exact ⟨i + 1, by omega, by go_num, fun _ => by rw [Nat.add_sub_cancel]; exact hlt⟩
          case measure => simp [intOf]; omega
      · obtain rfl : i = 4 := by omega
        have HH : Hid ((-1 : Int) = cl1 n) := by
          unfold Hid cl1
          simp [ln] at hn
          rw [if_neg (by omega), if_neg (by omega)]
        go_wp2
        go_ret
        exact ⟨ret_i HH.out, rfl⟩

section
variable {G : Geo} {H : Hp} {q p b : Nat}

theorem hget_any (i : Int) (w : World) (h : Tr w q p b G H) (hi : inside H.ws.length i = true) :
    Calls Tryz.prog 57 #[.pointer (some ⟨q, 0, none⟩), .int .i64 i] w fun e w' => e = .returned (.int .u64 (gv H.ws i)) ∧ Tr w' q p b G H ∧ Turns (· = p) w w' := by
  have c0 := h.ptr
  have GG := Lib.hid (get_in p b H.ws i w h.words hi)
  have T := Lib.hid (fun w' (k : Turns (· = p) w w') hs => h.stored' k hs)
  clear h hi
  go_enter Tryz.func57, Tryz.ntmps57
  go_wp2_with (
    go_at_call 74
    refine GG.out.mono ?_
    rintro e w1 ⟨rfl, hs1, ht1⟩)
  go_ret
  exact ⟨rfl, T.out _ ht1 hs1, ht1⟩
theorem hset_any (i v : Int) (w : World) (h : Tr w q p b G H) (hi : inside H.ws.length i = true) :
    Calls Tryz.prog 96 #[.pointer (some ⟨q, 0, none⟩), .int .i64 i, .int .u64 v] w fun e w' => e = .returned (.tuple #[]) ∧ Tr w' q p b G { H with ws := sv H.ws i v } ∧ Turns (fun k => k = p ∨ k = b) w w' := by
  have c0 := h.ptr
  have GG := Lib.hid (set_in p b H.ws i v w h.words hi)
  have T := Lib.hid (fun w' ws (k : Turns (fun k => k = p ∨ k = b) w w') hs => h.stored (ws := ws) k hs)
  clear h hi
  go_enter Tryz.func96, Tryz.ntmps96
  go_wp2_with (
    go_at_call 67
    refine GG.out.mono ?_
    rintro e w1 ⟨rfl, hs1, ht1⟩)
  go_end0
  exact ⟨rfl, T.out _ _ ht1 hs1, ht1⟩
theorem mark_any (i : Int) (w : World) (h : Tr w q p b G H) (hi : inside H.ws.length i = true) :
    Calls Tryz.prog 99 #[.pointer (some ⟨q, 0, none⟩), .int .i64 i] w fun e w' => e = .returned (.int .u64 (gv H.ws i)) ∧ Tr w' q p b G H ∧ Turns (· = p) w w' := by
  have GG := Lib.hid (hget_any i w h hi)
  clear h hi
  go_enter Tryz.func99, Tryz.ntmps99
  go_wp2_with (
    go_at_call 57
    refine GG.out.mono ?_
    rintro e w1 ⟨rfl, hs1, ht1⟩)
  go_ret
  exact ⟨rfl, hs1, ht1⟩

/-- a cycle's number that leaves room for marks -/
def Hp.inTime (H : Hp) : Prop := 0 ≤ H.cyc ∧ H.cyc ≤ 1000000000
theorem Hp.inTime.next {H : Hp} (h : H.inTime) : 0 ≤ H.next ∧ H.next ≤ 1000000002 := by
  obtain ⟨h0, h1⟩ := h
  unfold Hp.next
  split <;> omega

theorem next_any (w : World) (h : Tr w q p b G H) (hc : H.inTime) :
    Calls Tryz.prog 113 #[.pointer (some ⟨q, 0, none⟩)] w fun e w' => e = .returned (.int .i64 H.next) ∧ w = w' := by
  have c8 : w.cell? ⟨q, 20, none⟩ = some (.bool H.mrk) := h.here.cell 20
  have c9 : w.cell? ⟨q, 21, none⟩ = some (.int .i64 H.cyc) := h.here.cell 21
  obtain ⟨l0, l1⟩ := hc
  clear h
  unfold Hp.next
  cases hm : H.mrk
  all_goals
    rw [hm] at c8
    clear hm
    go_enter Tryz.func113, Tryz.ntmps113
    go_wp2
    go_ret
    exact ⟨rfl, rfl⟩
theorem isWhite_any (m : Int) (h0 : 0 ≤ m) (h1 : m < 18446744073709551616) (w : World) (h : Tr w q p b G H) (hc : H.inTime) :
    Calls Tryz.prog 104 #[.pointer (some ⟨q, 0, none⟩), .int .u64 m] w fun e w' => e = .returned (.bool (H.isWhite m)) ∧ ∃ k, w' = w.drewN k := by
  have c8 : w.cell? ⟨q, 20, none⟩ = some (.bool H.mrk) := h.here.cell 20
  have c9 : w.cell? ⟨q, 21, none⟩ = some (.int .i64 H.cyc) := h.here.cell 21
  obtain ⟨l0, l1⟩ := hc
  have hw1 : IntKind.i64.wrap (H.cyc + 1) = H.cyc + 1 := IntWalk.i64_in _ (by omega)
  have LL := Lib.hid (fun w => last_any m h0 h1 w)
  have E : Hid (H.isWhite m = (H.mrk && mlast m == H.cyc + 1)) := rfl
  clear h h0 h1
  generalize H.isWhite m = r at *
  generalize mlast m = l at *
  cases hm : H.mrk
  · rw [hm] at c8
    rw [hm] at E
    clear hm
    have hr : r = false := by rw [E.out]; rfl
    subst hr
    go_enter Tryz.func104, Tryz.ntmps104
    go_wp2
    go_quiet (fail)
    go_wp2
    go_ret
    exact ⟨rfl, _, rfl⟩
  · rw [hm] at c8
    rw [hm] at E
    clear hm
    have hr : r = (l == H.cyc + 1) := by rw [E.out]; rfl
    subst hr
    go_enter Tryz.func104, Tryz.ntmps104
    go_wp2
    go_quiet ((go_at_call 121; exact quiet_left (LL.out _)))
    go_wp2
    go_ret
    exact ⟨rfl, _, rfl⟩
end
end Go.Proofs.YtagedholocgahaaGreatDoor
