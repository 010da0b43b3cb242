/- Package code: isRight, a kind at a time, the others. -/
import Derived.Test.YthfelkcomhflnaaDoorQ26
import Derived.Test.YthfelkcomhflnaaDoorQ27
namespace Go.Proofs.YthfelkcomhflnaaDoor
open Go.ChangeShapes Go.WideShapes Go.ChangeAt Go.RowKit Go.Deep
open CD (Ins)

section
variable (w : World) (a b : Int) (S : ByteArray) (dk dn : Int) (dS : ByteArray) (I : Option Addr) (M c7 : Nat) (n : Int) (nb : Bool)
set_option maxRecDepth 100000 in
set_option maxHeartbeats 8000000 in
theorem ins7 (k : Int) (hk : k = 7 ∨ k = 8 ∨ k = 10) (hE : ∀ w' : World, Calls Tryd.prog 40 #[.agg #[.int .i64 dk, .int .i64 dn, .string dS, .slice I M c7]] w' fun e w2 => e = .returned (.bool nb) ∧ Went w' w2) (hn : 1 ≤ n ∧ n ≤ 1000000) :
    Calls Tryd.prog 27 #[.agg #[.int .i64 k, .int .i64 a, .int .i64 b, .string S, .int .i64 dk, .int .i64 dn, .string dS, .slice I M c7], .int .i64 n] w
      fun e w' => e = .returned (.bool (decide (0 ≤ a ∧ a < n) && decide (b = 0) && decide (S.data.toList = []) && nb)) ∧ Went w w' := by
  have hE' := Lib.hid hE
  clear hE
  obtain ⟨pl, hPe⟩ : ∃ pl, decide (0 ≤ a ∧ a < n) = pl := ⟨_, rfl⟩
  have hP' := Lib.hid (fun w' : World => by have := upTo_any a (n - 1) w'; rw [show decide (0 ≤ a ∧ a ≤ n - 1) = pl by rw [← hPe]; congr 1; rw [eq_iff_iff]; omega] at this; exact this)
  rw [hPe]
  clear hPe
  obtain ⟨se, hse0⟩ : ∃ se, decide (S.data.toList = []) = se := ⟨_, rfl⟩
  rw [hse0]
  have hse := Lib.hid hse0
  clear hse0
  rcases hk with rfl | rfl | rfl
  all_goals
    cases pl
    · go_enter Tryd.func27, Tryd.ntmps27
      go_wp2_with (first
        | (go_at_call 37; refine (hP'.out _).mono ?_; rintro e w2 ⟨rfl, rfl⟩)
        | (go_at_call 40; refine (hE'.out _).mono ?_; rintro e w9 ⟨rfl, hb9⟩))
      go_ret
      first
        | exact ⟨ret_b (by simp []), (Below.refl _ w).alloc (Nat.le_refl _) _⟩
        | exact ⟨ret_b (by simp []), went_then ((Below.refl _ w).alloc (Nat.le_refl _) _) hb9⟩
    · by_cases hb : b = 0
      · subst hb
        rcases Nat.eq_zero_or_pos S.size with hS0 | hS0
        · obtain ⟨e1, e3, e4⟩ := empty_yes (s := S) hS0
          obtain rfl : se = true := by rw [← hse.out]; exact decide_eq_true e4
          clear e4
          go_enter Tryd.func27, Tryd.ntmps27
          go_wp2_with (first
            | (go_at_call 37; refine (hP'.out _).mono ?_; rintro e w2 ⟨rfl, rfl⟩)
            | (go_at_call 40; refine (hE'.out _).mono ?_; rintro e w9 ⟨rfl, hb9⟩))
          go_ret
          first
            | exact ⟨ret_b (by simp []), (Below.refl _ w).alloc (Nat.le_refl _) _⟩
            | exact ⟨ret_b (by simp []), went_then ((Below.refl _ w).alloc (Nat.le_refl _) _) hb9⟩
        · obtain ⟨e1, e3⟩ := empty_no (s := S) hS0
          obtain rfl : se = false := by rw [← hse.out]; exact decide_eq_false (full_list (S := S) hS0)
          go_enter Tryd.func27, Tryd.ntmps27
          go_wp2_with (first
            | (go_at_call 37; refine (hP'.out _).mono ?_; rintro e w2 ⟨rfl, rfl⟩)
            | (go_at_call 40; refine (hE'.out _).mono ?_; rintro e w9 ⟨rfl, hb9⟩))
          go_ret
          first
            | exact ⟨ret_b (by simp []), (Below.refl _ w).alloc (Nat.le_refl _) _⟩
            | exact ⟨ret_b (by simp []), went_then ((Below.refl _ w).alloc (Nat.le_refl _) _) hb9⟩
      · go_enter Tryd.func27, Tryd.ntmps27
        go_wp2_with (first
          | (go_at_call 37; refine (hP'.out _).mono ?_; rintro e w2 ⟨rfl, rfl⟩)
          | (go_at_call 40; refine (hE'.out _).mono ?_; rintro e w9 ⟨rfl, hb9⟩))
        go_ret
        first
          | exact ⟨ret_b (by simp [hb]), (Below.refl _ w).alloc (Nat.le_refl _) _⟩
          | exact ⟨ret_b (by simp [hb]), went_then ((Below.refl _ w).alloc (Nat.le_refl _) _) hb9⟩
set_option maxRecDepth 100000 in
set_option maxHeartbeats 8000000 in
theorem ins12 (k : Int) (hk : k = 12 ∨ k = 13) (hE : ∀ w' : World, Calls Tryd.prog 40 #[.agg #[.int .i64 dk, .int .i64 dn, .string dS, .slice I M c7]] w' fun e w2 => e = .returned (.bool nb) ∧ Went w' w2) :
    Calls Tryd.prog 27 #[.agg #[.int .i64 k, .int .i64 a, .int .i64 b, .string S, .int .i64 dk, .int .i64 dn, .string dS, .slice I M c7], .int .i64 n] w
      fun e w' => e = .returned (.bool (decide (0 ≤ a ∧ a ≤ 28) && decide (b = 0) && decide (S.data.toList = []) && nb)) ∧ Went w w' := by
  have hE' := Lib.hid hE
  clear hE
  obtain ⟨u1, hU1e⟩ : ∃ u1, decide (0 ≤ a ∧ a ≤ 28) = u1 := ⟨_, rfl⟩
  have hU1' := Lib.hid (fun w' : World => by have := upTo_any a 28 w'; rw [hU1e] at this; exact this)
  rw [hU1e]
  clear hU1e
  obtain ⟨se, hse0⟩ : ∃ se, decide (S.data.toList = []) = se := ⟨_, rfl⟩
  rw [hse0]
  have hse := Lib.hid hse0
  clear hse0
  rcases hk with rfl | rfl
  all_goals
    cases u1
    · go_enter Tryd.func27, Tryd.ntmps27
      go_wp2_with (first
        | (go_at_call 37; refine (hU1'.out _).mono ?_; rintro e w2 ⟨rfl, rfl⟩)
        | (go_at_call 40; refine (hE'.out _).mono ?_; rintro e w9 ⟨rfl, hb9⟩))
      go_ret
      first
        | exact ⟨ret_b (by simp []), (Below.refl _ w).alloc (Nat.le_refl _) _⟩
        | exact ⟨ret_b (by simp []), went_then ((Below.refl _ w).alloc (Nat.le_refl _) _) hb9⟩
    · by_cases hb : b = 0
      · subst hb
        rcases Nat.eq_zero_or_pos S.size with hS0 | hS0
        · obtain ⟨e1, e3, e4⟩ := empty_yes (s := S) hS0
          obtain rfl : se = true := by rw [← hse.out]; exact decide_eq_true e4
          clear e4
          go_enter Tryd.func27, Tryd.ntmps27
          go_wp2_with (first
            | (go_at_call 37; refine (hU1'.out _).mono ?_; rintro e w2 ⟨rfl, rfl⟩)
            | (go_at_call 40; refine (hE'.out _).mono ?_; rintro e w9 ⟨rfl, hb9⟩))
          go_ret
          first
            | exact ⟨ret_b (by simp []), (Below.refl _ w).alloc (Nat.le_refl _) _⟩
            | exact ⟨ret_b (by simp []), went_then ((Below.refl _ w).alloc (Nat.le_refl _) _) hb9⟩
        · obtain ⟨e1, e3⟩ := empty_no (s := S) hS0
          obtain rfl : se = false := by rw [← hse.out]; exact decide_eq_false (full_list (S := S) hS0)
          go_enter Tryd.func27, Tryd.ntmps27
          go_wp2_with (first
            | (go_at_call 37; refine (hU1'.out _).mono ?_; rintro e w2 ⟨rfl, rfl⟩)
            | (go_at_call 40; refine (hE'.out _).mono ?_; rintro e w9 ⟨rfl, hb9⟩))
          go_ret
          first
            | exact ⟨ret_b (by simp []), (Below.refl _ w).alloc (Nat.le_refl _) _⟩
            | exact ⟨ret_b (by simp []), went_then ((Below.refl _ w).alloc (Nat.le_refl _) _) hb9⟩
      · go_enter Tryd.func27, Tryd.ntmps27
        go_wp2_with (first
          | (go_at_call 37; refine (hU1'.out _).mono ?_; rintro e w2 ⟨rfl, rfl⟩)
          | (go_at_call 40; refine (hE'.out _).mono ?_; rintro e w9 ⟨rfl, hb9⟩))
        go_ret
        first
          | exact ⟨ret_b (by simp [hb]), (Below.refl _ w).alloc (Nat.le_refl _) _⟩
          | exact ⟨ret_b (by simp [hb]), went_then ((Below.refl _ w).alloc (Nat.le_refl _) _) hb9⟩
end
end Go.Proofs.YthfelkcomhflnaaDoor

/- Package code: isRight, Check. -/
namespace Go.Proofs.YthfelkcomhflnaaDoor
open Go.ChangeShapes Go.WideShapes Go.ChangeAt Go.RowKit Go.Deep
open CD (Ins)

theorem isRight_any (x : Ins) (u : Value) (n : Nat) (w : World) (h : In w u x.d.is) (hn : 1 ≤ n ∧ n ≤ 1000000) :
    Calls Tryd.prog 27 #[insv x u, .int .i64 n] w fun e w' => e = .returned (.bool (CD.may n x)) ∧ Went w w' := by
  obtain ⟨I, c7, rfl⟩ := h.read
  have hE : ∀ w' : World, Calls Tryd.prog 40 #[.agg #[.int .i64 x.d.k, .int .i64 x.d.n, .string ⟨x.d.s.toArray⟩, .slice I x.d.is.len c7]] w' fun e w2 => e = .returned (.bool (TM.nod x.d)) ∧ Went w' w2 :=
    fun w' => nothing_any w' x.d.k x.d.n ⟨x.d.s.toArray⟩ I x.d.is.len c7 h.len
  unfold insv CD.may
  by_cases h1 : x.op = 1
  · rw [if_pos h1]
    exact ins1 w x.a x.b ⟨x.s.toArray⟩ x.d.k x.d.n ⟨x.d.s.toArray⟩ I x.d.is.len c7 n x.op h1 (TM.quo x.d) (fun w' hb => quotable_any x.d w' I c7 (h.below hb))
  rw [if_neg h1]
  by_cases h2 : x.op = 2 ∨ x.op = 4
  · rw [if_pos h2]
    exact ins2 w x.a x.b ⟨x.s.toArray⟩ x.d.k x.d.n ⟨x.d.s.toArray⟩ I x.d.is.len c7 n (TM.nod x.d) x.op h2 hE
  rw [if_neg h2]
  by_cases h3 : x.op = 3 ∨ x.op = 5 ∨ x.op = 6
  · rw [if_pos h3]
    exact ins3 w x.a x.b ⟨x.s.toArray⟩ x.d.k x.d.n ⟨x.d.s.toArray⟩ I x.d.is.len c7 n (TM.nod x.d) x.op h3 hE
  rw [if_neg h3]
  by_cases h7 : x.op = 7 ∨ x.op = 8 ∨ x.op = 10
  · rw [if_pos h7]
    exact ins7 w x.a x.b ⟨x.s.toArray⟩ x.d.k x.d.n ⟨x.d.s.toArray⟩ I x.d.is.len c7 n (TM.nod x.d) x.op h7 hE (by omega)
  rw [if_neg h7]
  by_cases h9 : x.op = 9
  · rw [if_pos h9]
    exact ins9 w x.a x.b ⟨x.s.toArray⟩ x.d.k x.d.n ⟨x.d.s.toArray⟩ I x.d.is.len c7 n (TM.nod x.d) x.op h9 hE (by omega)
  rw [if_neg h9]
  by_cases h11 : x.op = 11 ∨ x.op = 14
  · rw [if_pos h11]
    exact ins11 w x.a x.b ⟨x.s.toArray⟩ x.d.k x.d.n ⟨x.d.s.toArray⟩ I x.d.is.len c7 n (TM.nod x.d) x.op h11 hE
  rw [if_neg h11]
  by_cases h12 : x.op = 12 ∨ x.op = 13
  · rw [if_pos h12]
    exact ins12 w x.a x.b ⟨x.s.toArray⟩ x.d.k x.d.n ⟨x.d.s.toArray⟩ I x.d.is.len c7 n (TM.nod x.d) x.op h12 hE
  rw [if_neg h12]
  exact ins0 w x.a x.b ⟨x.s.toArray⟩ x.d.k x.d.n ⟨x.d.s.toArray⟩ I x.d.is.len c7 n x.op (by omega)
/-- the error of code that is none -/
def cer (b : Bool) : Value := if b then .nilIface else .iface 34 (.int .i64 19)
theorem cer_ret {a b : Bool} (h : a = b) {v : Value} (hv : v = cer a) : Ending.returned v = .returned (cer b) := by rw [hv, h]
theorem rgt_no {l : List Ins} {j : Nat} {x : Ins} (hx : l[j]? = some x) (h : CD.may l.length x = false) : CD.rgt l = false := by
  cases hr : CD.rgt l
  · rfl
  · rw [CD.rgt_at hr hx] at h; cases h
theorem rgt_yes {l : List Ins} (h1 : 1 ≤ l.length) (h2 : l.length ≤ 8000) (h : ∀ (k : Nat) (x : Ins), k < l.length → l[k]? = some x → CD.may l.length x = true) : CD.rgt l = true := by
  unfold CD.rgt
  rw [decide_eq_true h1, decide_eq_true h2, Bool.true_and, Bool.true_and, List.all_eq_true]
  intro x hx
  obtain ⟨k, hk, e⟩ := List.mem_iff_getElem.1 hx
  exact h k x hk (by rw [← e]; exact List.getElem?_eq_getElem hk)
set_option maxRecDepth 100000 in
set_option maxHeartbeats 8000000 in
theorem check16_any (l : List Ins) (w : World) (v : Value) (h : IIn w v l) : Calls Tryd.prog 15 #[v] w fun e w' => e = .returned (cer (CD.rgt l)) ∧ Went w w' := by
  have hlen := h.len
  obtain ⟨A, c, rfl⟩ := h.read
  obtain ⟨L, hL⟩ : ∃ L, l.length = L := ⟨_, rfl⟩
  rw [hL] at h hlen ⊢
  have hL' := Lib.hid hL
  clear hL
  by_cases h0 : L = 0
  · subst h0
    have hr : CD.rgt l = false := by simp [CD.rgt, hL'.out]
    rw [hr]
    go_enter Tryd.func15, Tryd.ntmps15
    go_wp2_with fail
    go_ret
    exact ⟨rfl, Below.refl _ _⟩
  have e0 : ((L : Int) == 0) = false := by simp [h0]
  by_cases h8 : 8000 < L
  · have hr : CD.rgt l = false := by
      unfold CD.rgt
      rw [hL'.out, decide_eq_false (show ¬ L ≤ 8000 by omega)]; simp
    rw [hr]
    go_enter Tryd.func15, Tryd.ntmps15
    go_wp2_with fail
    go_ret
    exact ⟨rfl, Below.refl _ _⟩
  have hb0 := Below.refl w.heap.size w
  go_enter Tryd.func15, Tryd.ntmps15
  go_wp2_with fail
  go_loopw [16] (fun i wr => ∃ j : Nat, j ≤ L ∧ i = .int .i64 j ∧ Hid (∀ (k : Nat) (x : Ins), k < j → l[k]? = some x → CD.may L x = true) ∧ Below w.heap.size w wr) (fun i _ => L - (intOf i).toNat)
  case atStart => exact ⟨0, by omega, rfl, Lib.hid (fun k x hk => by omega), hb0⟩
  case round =>
    obtain ⟨j, hj, rfl, hf, hb⟩ := hrel
    clear hb0
    by_cases hlt : j < L
    · have hx : l[j]? = some (l[j]'(by rw [hL'.out]; exact hlt)) := List.getElem?_eq_getElem _
      obtain ⟨x, hxe⟩ : ∃ x, l[j]'(by rw [hL'.out]; exact hlt) = x := ⟨_, rfl⟩
      rw [hxe] at hx
      obtain ⟨b, o, I, q, rfl, hbl, hd, p0, p1, p2, p3, p4, p5, p6, p7⟩ := (h.below hb).at_ hx
      have hC := Lib.hid (fun (w' : World) (hb : Below wr.heap.size wr w') => isRight_any x (.slice I x.d.is.len q) L w' (hd.below hb) ⟨by omega, by omega⟩)
      obtain ⟨m, hm⟩ : ∃ m, CD.may L x = m := ⟨_, rfl⟩
      rw [hm] at hC
      have hm' := Lib.hid hm
      have hx' := Lib.hid hx
      unfold insv at hC
      have hba : Below wr.heap.size wr (wr.alloc (.cells #[.int .i64 x.op, .int .i64 x.a, .int .i64 x.b, .string ⟨x.s.toArray⟩, .int .i64 x.d.k, .int .i64 x.d.n, .string ⟨x.d.s.toArray⟩, .slice I x.d.is.len q] 44)) := (Below.refl _ _).alloc (Nat.le_refl _) _
      clear hm hxe hx hd
      cases m
      · go_wp2_with (
          go_at_call 27
          refine (hC.out _ hba).mono ?_
          rintro e w3 ⟨rfl, hb3⟩
          have hb4 : Below w.heap.size w w3 := hb.trans (Below.mono (hba.trans (Below.mono hb3 hba.size)) hb.size)
          clear hb3)
        go_ret
        exact ⟨cer_ret (rgt_no hx'.out (by rw [hL'.out]; exact hm'.out)).symm rfl, hb4⟩
      · go_wp2_with (
          go_at_call 27
          refine (hC.out _ hba).mono ?_
          rintro e w3 ⟨rfl, hb3⟩
          have hb4 : Below w.heap.size w w3 := hb.trans (Below.mono (hba.trans (Below.mono hb3 hba.size)) hb.size)
          clear hb3)
        go_roundw
        case rel => exact ⟨j + 1, by omega, by go_num, Lib.hid (fun k y hk hy => by
          by_cases hkj : k = j
          · subst hkj
            rw [hx'.out] at hy
            injection hy with hy
            subst hy
            exact hm'.out
          · exact hf.out k y (by omega) hy), hb4⟩
        case measure => simp [intOf]; omega
    · obtain rfl : j = L := by omega
      go_wp2_with fail
      go_ret
      exact ⟨cer_ret (rgt_yes (by rw [hL'.out]; omega) (by rw [hL'.out]; omega) (fun k x hk hx => by rw [hL'.out] at hk ⊢; exact hf.out k x hk hx)).symm rfl, hb⟩
end Go.Proofs.YthfelkcomhflnaaDoor
