/- The law ShowTexts, walked. -/
import Derived.Test.YtfkmknehoonlcaaDoorShowAwake
namespace Go.Proofs.YtfkmknehoonlcaaDoor
open Go.ChangeShapes Go.WideShapes Go.ChangeAt Go.RowKit

set_option maxRecDepth 100000 in
set_option maxHeartbeats 8000000 in
theorem showTexts_walk (x : RM.Dm) (A : Option Addr) (c : Nat) (w : World) (h : In w (.slice A x.is.len c) x.is) (hT : Tab w) :
    Calls Tryd.prog 3 #[dtv x (.slice A x.is.len c)] w fun e w' => e = .returned (.bool true) ∧ Below w.heap.size w w' := by
  have hlen := h.len
  have hA := Lib.hid (fun (w' : World) (hb : Below w.heap.size w w') => awake09_any w' (hT.on hb))
  have hS := Lib.hid (fun (w' : World) (hb : Below w.heap.size w w') => small_any x w' (.slice A x.is.len c) (h.below hb))
  have hO := Lib.hid (fun (w' : World) (hb : Below w.heap.size w w') (hz : SM.sz x.is ≤ 5000) => own_any x w' (.slice A x.is.len c) (h.below hb) hz)
  have hR := Lib.hid (fun (w' : World) (hb : Below w.heap.size w w') => rright_any x w' (.slice A x.is.len c) (h.below hb))
  have hX := Lib.hid (fun (w' : World) (hb : Below w.heap.size w w') (p : Bool) hk hr (hz : SM.sz x.is ≤ 5000) => rt_any x w' (.slice A x.is.len c) p (h.below hb) hk hr hz)
  have hW := Lib.hid (fun (w' : World) (hb : Below w.heap.size w w') v (hi : In w' v x.is) => write_any x w' v hi (hT.on hb))
  have hD := Lib.hid (fun (w' : World) (hb : Below w.heap.size w w') v (hi : In w' v x.is) => display_any x w' v hi (hT.on hb))
  obtain ⟨sm, hsm⟩ : ∃ sm, SM.small x = sm := ⟨_, rfl⟩
  obtain ⟨ok, hok⟩ : ∃ ok, SM.okd x = ok := ⟨_, rfl⟩
  have hz : sm = true → SM.sz x.is ≤ 5000 := fun e => by
    rw [e] at hsm
    unfold SM.small at hsm
    simp only [Bool.and_eq_true, decide_eq_true_eq] at hsm
    omega
  have hkr : ok = true → SM.kd x.k x.n x.s x.is = true ∧ SM.rgt x.is = true ∧ SM.sz x.is ≤ 5000 := fun e => by
    rw [e] at hok
    unfold SM.okd at hok
    simp only [Bool.and_eq_true, decide_eq_true_eq] at hok
    exact ⟨hok.2.1, hok.2.2, by omega⟩
  rw [hsm] at hS
  rw [hok] at hR hW hD
  have hz' := Lib.hid hz
  have hkr' := Lib.hid hkr
  unfold dtv at hS hO hR hX hW hD ⊢
  obtain ⟨N, hN⟩ : ∃ N, x.is.len = N := ⟨_, rfl⟩
  rw [hN] at hS hO hR hX hlen ⊢
  have hN' := Lib.hid hN
  clear hsm hok hz hkr h hT hN
  have hL := Lies.made w 24 #[.int .i64 x.k, .int .i64 x.n, .string ⟨x.s.toArray⟩, .slice A N c]
  have c0 : Below w.heap.size w (w.alloc (.cells #[.int .i64 x.k, .int .i64 x.n, .string ⟨x.s.toArray⟩, .slice A N c] 24)) := went_alloc _ _
  cases sm
  · go_enter Tryd.func3, Tryd.ntmps3
    go_wp2_with (first
      | (go_at_call 6
         with_reducible refine (hA.out _ c0).mono ?_
         rintro e w1 ⟨rfl, hb1⟩
         have hM1 := hL.below hb1 hL.lt
         have c1 : Below w.heap.size w w1 := c0.trans (hb1.mono c0.size)
         have z0 := hM1.cell 0
         have z1 := hM1.cell 1
         have z2 := hM1.cell 2
         have z3 := hM1.cell 3
         simp only [List.getElem?_cons_succ, List.getElem?_cons_zero] at z0 z1 z2 z3
         clear hb1)
      | (go_at_call 7
         refine (hS.out _ c1).mono ?_
         rintro e w2 ⟨rfl, hb2⟩
         have hM2 := hM1.below hb2 hM1.lt
         have c2 : Below w.heap.size w w2 := c1.trans (hb2.mono c1.size)
         have z0 := hM2.cell 0
         have z1 := hM2.cell 1
         have z2 := hM2.cell 2
         have z3 := hM2.cell 3
         simp only [List.getElem?_cons_succ, List.getElem?_cons_zero] at z0 z1 z2 z3
         clear hb2)
      | (go_at_call 6; with_reducible refine (hA.out _ c2).mono ?_; rintro e w3 ⟨rfl, hb3⟩))
    go_ret
    exact ⟨rfl, c2.trans (hb3.mono c2.size)⟩
  · have hzz := hz'.out rfl
    cases ok
    · unfold chv at hW hD
      go_enter Tryd.func3, Tryd.ntmps3
      go_wp2_with (first
      | (go_at_call 6
         refine (hA.out _ c0).mono ?_
         rintro e w1 ⟨rfl, hb1⟩
         have hM1 := hL.below hb1 hL.lt
         have c1 : Below w.heap.size w w1 := c0.trans (hb1.mono c0.size)
         have z0 := hM1.cell 0
         have z1 := hM1.cell 1
         have z2 := hM1.cell 2
         have z3 := hM1.cell 3
         simp only [List.getElem?_cons_succ, List.getElem?_cons_zero] at z0 z1 z2 z3
         clear hb1)
      | (go_at_call 7
         refine (hS.out _ c1).mono ?_
         rintro e w2 ⟨rfl, hb2⟩
         have hM2 := hM1.below hb2 hM1.lt
         have c2 : Below w.heap.size w w2 := c1.trans (hb2.mono c1.size)
         have z0 := hM2.cell 0
         have z1 := hM2.cell 1
         have z2 := hM2.cell 2
         have z3 := hM2.cell 3
         simp only [List.getElem?_cons_succ, List.getElem?_cons_zero] at z0 z1 z2 z3
         clear hb2)
      | (go_at_call 9
         with_reducible refine (hO.out _ c2 hzz).mono ?_
         rintro e w3 ⟨v3, rfl, hd3, hb3⟩
         have hi3 := hd3.in_
         obtain ⟨A3, q3, e3⟩ := hd3.read
         rw [hN'.out] at e3
         subst e3
         have hM3 := hM2.below hb3 hM2.lt
         have c3 : Below w.heap.size w w3 := c2.trans (hb3.mono c2.size)
         have z0 := hM3.cell 0
         have z1 := hM3.cell 1
         have z2 := hM3.cell 2
         have z3 := hM3.cell 3
         simp only [List.getElem?_cons_succ, List.getElem?_cons_zero] at z0 z1 z2 z3
         clear hb3)
      | (go_at_call 8
         refine (hW.out _ c3 _ hi3).mono ?_
         rintro e w4 ⟨rfl, hb4⟩
         have hM4 := hM3.below hb4 hM3.lt
         have c4 : Below w.heap.size w w4 := c3.trans (hb4.mono c3.size)
         have z0 := hM4.cell 0
         have z1 := hM4.cell 1
         have z2 := hM4.cell 2
         have z3 := hM4.cell 3
         simp only [List.getElem?_cons_succ, List.getElem?_cons_zero] at z0 z1 z2 z3
         clear hb4)
      | (go_at_call 9
         with_reducible refine (hO.out _ c4 hzz).mono ?_
         rintro e w5 ⟨v5, rfl, hd5, hb5⟩
         have hi5 := hd5.in_
         obtain ⟨A5, q5, e5⟩ := hd5.read
         rw [hN'.out] at e5
         subst e5
         have hM5 := hM4.below hb5 hM4.lt
         have c5 : Below w.heap.size w w5 := c4.trans (hb5.mono c4.size)
         have z0 := hM5.cell 0
         have z1 := hM5.cell 1
         have z2 := hM5.cell 2
         have z3 := hM5.cell 3
         simp only [List.getElem?_cons_succ, List.getElem?_cons_zero] at z0 z1 z2 z3
         clear hb5)
      | (go_at_call 10
         refine (hD.out _ c5 _ hi5).mono ?_
         rintro e w6 ⟨rfl, hb6⟩
         have hM6 := hM5.below hb6 hM5.lt
         have c6 : Below w.heap.size w w6 := c5.trans (hb6.mono c5.size)
         have z0 := hM6.cell 0
         have z1 := hM6.cell 1
         have z2 := hM6.cell 2
         have z3 := hM6.cell 3
         simp only [List.getElem?_cons_succ, List.getElem?_cons_zero] at z0 z1 z2 z3
         clear hb6)
      | (go_at_call 11
         refine (hR.out _ c6).mono ?_
         rintro e w7 ⟨rfl, hb7⟩
         have hM7 := hM6.below hb7 hM6.lt
         have c7 : Below w.heap.size w w7 := c6.trans (hb7.mono c6.size)
         have z0 := hM7.cell 0
         have z1 := hM7.cell 1
         have z2 := hM7.cell 2
         have z3 := hM7.cell 3
         simp only [List.getElem?_cons_succ, List.getElem?_cons_zero] at z0 z1 z2 z3
         clear hb7)
      | (go_at_call 12; refine (is_same _ _).mono ?_; rintro e w8 ⟨rfl, rfl⟩))
      go_ret
      exact ⟨rfl, c7⟩
    · obtain ⟨hk, hr, -⟩ := hkr'.out rfl
      have hXf := Lib.hid (fun (w' : World) (hb : Below w.heap.size w w') => hX.out w' hb false hk hr hzz)
      have hXt := Lib.hid (fun (w' : World) (hb : Below w.heap.size w w') => hX.out w' hb true hk hr hzz)
      obtain ⟨tf, htf⟩ : ∃ t : ByteArray, ⟨(SM.txt false x).toArray⟩ = t := ⟨_, rfl⟩
      obtain ⟨tt, htt⟩ : ∃ t : ByteArray, ⟨(SM.txt true x).toArray⟩ = t := ⟨_, rfl⟩
      rw [if_pos rfl, htf] at hW
      rw [if_pos rfl, htt] at hD
      have htf' := Lib.hid htf
      have htt' := Lib.hid htt
      clear hX hk hr htf htt
      unfold chv at hW hD
      go_enter Tryd.func3, Tryd.ntmps3
      go_wp2_with (first
      | (go_at_call 6
         refine (hA.out _ c0).mono ?_
         rintro e w1 ⟨rfl, hb1⟩
         have hM1 := hL.below hb1 hL.lt
         have c1 : Below w.heap.size w w1 := c0.trans (hb1.mono c0.size)
         have z0 := hM1.cell 0
         have z1 := hM1.cell 1
         have z2 := hM1.cell 2
         have z3 := hM1.cell 3
         simp only [List.getElem?_cons_succ, List.getElem?_cons_zero] at z0 z1 z2 z3
         clear hb1)
      | (go_at_call 7
         refine (hS.out _ c1).mono ?_
         rintro e w2 ⟨rfl, hb2⟩
         have hM2 := hM1.below hb2 hM1.lt
         have c2 : Below w.heap.size w w2 := c1.trans (hb2.mono c1.size)
         have z0 := hM2.cell 0
         have z1 := hM2.cell 1
         have z2 := hM2.cell 2
         have z3 := hM2.cell 3
         simp only [List.getElem?_cons_succ, List.getElem?_cons_zero] at z0 z1 z2 z3
         clear hb2)
      | (go_at_call 9
         with_reducible refine (hO.out _ c2 hzz).mono ?_
         rintro e w3 ⟨v3, rfl, hd3, hb3⟩
         have hi3 := hd3.in_
         obtain ⟨A3, q3, e3⟩ := hd3.read
         rw [hN'.out] at e3
         subst e3
         have hM3 := hM2.below hb3 hM2.lt
         have c3 : Below w.heap.size w w3 := c2.trans (hb3.mono c2.size)
         have z0 := hM3.cell 0
         have z1 := hM3.cell 1
         have z2 := hM3.cell 2
         have z3 := hM3.cell 3
         simp only [List.getElem?_cons_succ, List.getElem?_cons_zero] at z0 z1 z2 z3
         clear hb3)
      | (go_at_call 8
         refine (hW.out _ c3 _ hi3).mono ?_
         rintro e w4 ⟨rfl, hb4⟩
         have hM4 := hM3.below hb4 hM3.lt
         have c4 : Below w.heap.size w w4 := c3.trans (hb4.mono c3.size)
         have z0 := hM4.cell 0
         have z1 := hM4.cell 1
         have z2 := hM4.cell 2
         have z3 := hM4.cell 3
         simp only [List.getElem?_cons_succ, List.getElem?_cons_zero] at z0 z1 z2 z3
         clear hb4)
      | (go_at_call 9
         with_reducible refine (hO.out _ c4 hzz).mono ?_
         rintro e w5 ⟨v5, rfl, hd5, hb5⟩
         have hi5 := hd5.in_
         obtain ⟨A5, q5, e5⟩ := hd5.read
         rw [hN'.out] at e5
         subst e5
         have hM5 := hM4.below hb5 hM4.lt
         have c5 : Below w.heap.size w w5 := c4.trans (hb5.mono c4.size)
         have z0 := hM5.cell 0
         have z1 := hM5.cell 1
         have z2 := hM5.cell 2
         have z3 := hM5.cell 3
         simp only [List.getElem?_cons_succ, List.getElem?_cons_zero] at z0 z1 z2 z3
         clear hb5)
      | (go_at_call 10
         refine (hD.out _ c5 _ hi5).mono ?_
         rintro e w6 ⟨rfl, hb6⟩
         have hM6 := hM5.below hb6 hM5.lt
         have c6 : Below w.heap.size w w6 := c5.trans (hb6.mono c5.size)
         have z0 := hM6.cell 0
         have z1 := hM6.cell 1
         have z2 := hM6.cell 2
         have z3 := hM6.cell 3
         simp only [List.getElem?_cons_succ, List.getElem?_cons_zero] at z0 z1 z2 z3
         clear hb6)
      | (go_at_call 11
         refine (hR.out _ c6).mono ?_
         rintro e w7 ⟨rfl, hb7⟩
         have hM7 := hM6.below hb7 hM6.lt
         have c7 : Below w.heap.size w w7 := c6.trans (hb7.mono c6.size)
         have z0 := hM7.cell 0
         have z1 := hM7.cell 1
         have z2 := hM7.cell 2
         have z3 := hM7.cell 3
         simp only [List.getElem?_cons_succ, List.getElem?_cons_zero] at z0 z1 z2 z3
         clear hb7)
      | (go_at_call 13
         with_reducible refine (hXf.out _ c7).mono ?_
         rintro e w8 ⟨⟨T8, rfl, hT8⟩, hb8⟩
         have e8 : T8 = tf := ba_ext (by rw [hT8, ← htf'.out])
         subst e8
         have hM8 := hM7.below hb8 hM7.lt
         have c8 : Below w.heap.size w w8 := c7.trans (hb8.mono c7.size)
         have z0 := hM8.cell 0
         have z1 := hM8.cell 1
         have z2 := hM8.cell 2
         have z3 := hM8.cell 3
         simp only [List.getElem?_cons_succ, List.getElem?_cons_zero] at z0 z1 z2 z3
         clear hb8)
      | (go_at_call 13
         with_reducible refine (hXt.out _ c8).mono ?_
         rintro e w9 ⟨⟨T9, rfl, hT9⟩, hb9⟩
         have e9 : T9 = tt := ba_ext (by rw [hT9, ← htt'.out])
         subst e9
         have hM9 := hM8.below hb9 hM8.lt
         have c9 : Below w.heap.size w w9 := c8.trans (hb9.mono c8.size)
         have z0 := hM9.cell 0
         have z1 := hM9.cell 1
         have z2 := hM9.cell 2
         have z3 := hM9.cell 3
         simp only [List.getElem?_cons_succ, List.getElem?_cons_zero] at z0 z1 z2 z3
         clear hb9))
      go_ret
      exact ⟨ret_b (by simp), c9⟩
end Go.Proofs.YtfkmknehoonlcaaDoor
