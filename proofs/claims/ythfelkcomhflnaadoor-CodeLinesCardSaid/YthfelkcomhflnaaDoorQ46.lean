/- The laws' helper of stage 16: small. -/
import Derived.Test.YthfelkcomhflnaaDoorQ28
import Derived.Test.YthfelkcomhflnaaDoorQ14
import Derived.Test.YthfelkcomhflnaaDoorQ40
import Derived.Test.YthfelkcomhflnaaDoorQ38
import Derived.WalkSpells
namespace Go.Proofs.YthfelkcomhflnaaDoor
open Go.ChangeShapes Go.WideShapes Go.ChangeAt Go.RowKit Go.Deep
open CD (Ins)

def crsm (x : RM.Dm) : Bool := decide (SM.hi x.is + 1 ≤ 90) && decide (SM.sz x.is + 1 < 5000)
theorem cret_b {a b : Bool} (h : a = b) : Ending.returned (.bool a) = .returned (.bool b) := by rw [h]
set_option maxRecDepth 100000 in
set_option maxHeartbeats 2000000 in
theorem crsm_any (x : RM.Dm) (w : World) (v : Value) (h : In w v x.is) : Calls Tryd.prog 16 #[dtv x v] w fun e w' => e = .returned (.bool (crsm x)) ∧ Went w w' := by
  obtain ⟨A, c, rfl⟩ := h.read
  obtain ⟨Z, hZ⟩ : ∃ Z, SM.sz x.is = Z := ⟨_, rfl⟩
  obtain ⟨H, hH⟩ : ∃ H, SM.hi x.is = H := ⟨_, rfl⟩
  have hD := Lib.hid (fun (w' : World) (hb : Below w.heap.size w w') => hi_any x w' (.slice A x.is.len c) 100 (h.below hb) (by omega) (by omega))
  have hC := Lib.hid (fun (w' : World) (hb : Below w.heap.size w w') (hf : (H : Int) ≤ 100000) => rparts_any x w' (.slice A x.is.len c) (h.below hb) (by rw [hH]; exact hf))
  rw [hZ] at hC
  rw [hH] at hD
  unfold crsm
  rw [hZ, hH]
  clear hZ hH h
  unfold dtv at hC hD ⊢
  obtain ⟨N, hN⟩ : ∃ N, x.is.len = N := ⟨_, rfl⟩
  rw [hN] at hC hD ⊢
  clear hN
  have hL := Lies.made w 42 #[.int .i64 x.k, .int .i64 x.n, .string ⟨x.s.toArray⟩, .slice A N c]
  have hb0 : Below w.heap.size w (w.alloc (.cells #[.int .i64 x.k, .int .i64 x.n, .string ⟨x.s.toArray⟩, .slice A N c] 42)) := (Below.refl _ w).alloc (Nat.le_refl _) _
  by_cases h1 : H + 1 ≤ 90
  · rw [decide_eq_true h1, Bool.true_and]
    go_enter Tryd.func16, Tryd.ntmps16
    go_wp2_with (first
      | (go_at_call 28
         refine (hD.out _ hb0).mono ?_
         rintro e w5 ⟨y5, h50, rfl, hb5⟩
         have hy : y5 ≤ 90 := by omega
         clear h50
         have hM := hL.below hb5 hL.lt
         have hb6 : Below w.heap.size w w5 := hb0.trans (hb5.mono (by simp))
         have y0 := hM.cell 0
         have y1 := hM.cell 1
         have y2 := hM.cell 2
         have y3 := hM.cell 3
         simp only [List.getElem?_cons_succ, List.getElem?_cons_zero] at y0 y1 y2 y3
         clear hL hb0 hb5 hM)
      | (go_at_call 17
         refine (hC.out _ hb6 (by omega)).mono ?_
         rintro e w7 ⟨y7, h70, rfl, hb7⟩
         have h70' := Lib.hid h70
         clear h70))
    go_ret
    exact ⟨cret_b (by have h70 := h70'.out; rw [Bool.eq_iff_iff]; simp; omega), hb6.trans (hb7.mono hb6.size)⟩
  · rw [decide_eq_false h1, Bool.false_and]
    go_enter Tryd.func16, Tryd.ntmps16
    go_wp2_with (
      go_at_call 28
      refine (hD.out _ hb0).mono ?_
      rintro e w5 ⟨y5, h50, rfl, hb5⟩
      have hy : 90 < y5 := by omega
      clear h50)
    go_ret
    exact ⟨rfl, hb0.trans (hb5.mono (by simp))⟩
def csi (x : Ins) : Bool := decide (x.s.length ≤ 200) && (crsm x.d && decide (SM.sz x.d.is + 1 ≤ 300))
def csml (l : List Ins) : Bool := decide (l.length ≤ 400) && l.all csi
theorem csml_ism {l : List Ins} (h : csml l = true) : ISm l ∧ l.length ≤ 400 := by
  unfold csml at h
  simp only [Bool.and_eq_true, decide_eq_true_eq, List.all_eq_true] at h
  refine ⟨⟨by omega, fun j x hx => ?_⟩, h.1⟩
  have := h.2 x (List.mem_of_getElem? hx)
  unfold csi at this
  simp only [Bool.and_eq_true, decide_eq_true_eq] at this
  omega
theorem csml_no {l : List Ins} {j : Nat} {x : Ins} (hx : l[j]? = some x) (h : csi x = false) : csml l = false := by
  cases hr : csml l
  · rfl
  · unfold csml at hr
    simp only [Bool.and_eq_true, List.all_eq_true] at hr
    rw [hr.2 x (List.mem_of_getElem? hx)] at h; cases h
theorem csml_yes {l : List Ins} (h1 : l.length ≤ 400) (h : ∀ (k : Nat) (x : Ins), k < l.length → l[k]? = some x → csi x = true) : csml l = true := by
  unfold csml
  rw [decide_eq_true h1, Bool.true_and, List.all_eq_true]
  intro x hx
  obtain ⟨k, hk, e⟩ := List.mem_iff_getElem.1 hx
  exact h k x hk (by rw [← e]; exact List.getElem?_eq_getElem hk)
set_option maxRecDepth 100000 in
set_option maxHeartbeats 8000000 in
theorem csmall_any (l : List Ins) (w : World) (v : Value) (h : IIn w v l) : Calls Tryd.prog 7 #[v] w fun e w' => e = .returned (.bool (csml l)) ∧ Went w w' := by
  have hlen := h.len
  obtain ⟨A, c, rfl⟩ := h.read
  obtain ⟨L, hL⟩ : ∃ L, l.length = L := ⟨_, rfl⟩
  rw [hL] at h hlen ⊢
  have hL' := Lib.hid hL
  clear hL
  by_cases h8 : 400 < L
  · have hr : csml l = false := by
      unfold csml
      rw [hL'.out, decide_eq_false (show ¬ L ≤ 400 by omega)]; rfl
    rw [hr]
    go_enter Tryd.func7, Tryd.ntmps7
    go_wp2_with fail
    go_ret
    exact ⟨rfl, Below.refl _ _⟩
  have hb0 := Below.refl w.heap.size w
  go_enter Tryd.func7, Tryd.ntmps7
  go_wp2_with fail
  go_loopw [10] (fun i wr => ∃ j : Nat, j ≤ L ∧ i = .int .i64 j ∧ Hid (∀ (k : Nat) (x : Ins), k < j → l[k]? = some x → csi x = true) ∧ Below w.heap.size w wr) (fun i _ => L - (intOf i).toNat)
  case atStart => exact ⟨0, by omega, rfl, Lib.hid (fun k x hk => by omega), hb0⟩
  case round =>
    obtain ⟨j, hj, rfl, hf, hb⟩ := hrel
    clear hb0
    by_cases hlt : j < L
    · have hx : l[j]? = some (l[j]'(by rw [hL'.out]; exact hlt)) := List.getElem?_eq_getElem _
      obtain ⟨x, hxe⟩ : ∃ x, l[j]'(by rw [hL'.out]; exact hlt) = x := ⟨_, rfl⟩
      rw [hxe] at hx
      obtain ⟨b, o, I, q, rfl, hbl, hd, p0, p1, p2, p3, p4, p5, p6, p7⟩ := (h.below hb).at_ hx
      have hS := Lib.hid (fun (w' : World) (hb : Below wr.heap.size wr w') => crsm_any x.d w' (.slice I x.d.is.len q) (hd.below hb))
      have hP := Lib.hid (fun (w' : World) (hb : Below wr.heap.size wr w') (hf : (SM.hi x.d.is : Int) ≤ 100000) => rparts_any x.d w' (.slice I x.d.is.len q) (hd.below hb) hf)
      obtain ⟨X, hX, hXl, hXs⟩ := cbytes x.s
      have hxs : csi x = (decide (X.size ≤ 200) && (crsm x.d && decide (SM.sz x.d.is + 1 ≤ 300))) := by unfold csi; rw [hXs]
      obtain ⟨Z, hZ⟩ : ∃ Z, SM.sz x.d.is = Z := ⟨_, rfl⟩
      obtain ⟨m, hm⟩ : ∃ m, crsm x.d = m := ⟨_, rfl⟩
      have hmh : m = true → (SM.hi x.d.is : Int) ≤ 100000 := fun e => by
        rw [← hm] at e
        unfold crsm at e
        simp only [Bool.and_eq_true, decide_eq_true_eq] at e
        omega
      rw [hm, hZ] at hxs
      rw [hm] at hS
      rw [hZ] at hP
      rw [hX] at p3
      have hx' := Lib.hid hx
      have hxs' := Lib.hid hxs
      have hmh' := Lib.hid hmh
      unfold dtv at hS hP
      have hM := Lies.made wr 44 #[.int .i64 x.op, .int .i64 x.a, .int .i64 x.b, .string X, .int .i64 x.d.k, .int .i64 x.d.n, .string ⟨x.d.s.toArray⟩, .slice I x.d.is.len q]
      have hba : Below wr.heap.size wr (wr.alloc (.cells #[.int .i64 x.op, .int .i64 x.a, .int .i64 x.b, .string X, .int .i64 x.d.k, .int .i64 x.d.n, .string ⟨x.d.s.toArray⟩, .slice I x.d.is.len q] 44)) := (Below.refl _ _).alloc (Nat.le_refl _) _
      have hb2 : Below w.heap.size w (wr.alloc (.cells #[.int .i64 x.op, .int .i64 x.a, .int .i64 x.b, .string X, .int .i64 x.d.k, .int .i64 x.d.n, .string ⟨x.d.s.toArray⟩, .slice I x.d.is.len q] 44)) := hb.trans (Below.mono hba hb.size)
      clear hm hxe hx hd hX hXl hXs hxs hmh hZ
      by_cases hn : 200 < X.size
      · have hno := Lib.hid (csml_no hx'.out (by rw [hxs'.out, decide_eq_false (show ¬ X.size ≤ 200 by omega)]; rfl))
        go_wp2_with fail
        go_ret
        exact ⟨ret_b hno.out.symm, hb2⟩
      cases m
      · have hno := Lib.hid (csml_no hx'.out (by rw [hxs'.out]; simp))
        go_wp2_with (
          go_at_call 16
          refine (hS.out _ hba).mono ?_
          rintro e w3 ⟨rfl, hb3⟩
          have hb4 : Below w.heap.size w w3 := hb.trans (Below.mono (hba.trans (Below.mono hb3 hba.size)) hb.size)
          clear hb3)
        go_ret
        exact ⟨ret_b hno.out.symm, hb4⟩
      · by_cases hz : Z + 1 ≤ 300
        · have hyes := Lib.hid (show csi x = true by rw [hxs'.out, decide_eq_true (show X.size ≤ 200 by omega), decide_eq_true hz]; rfl)
          go_wp2_with (first
            | (go_at_call 16
               refine (hS.out _ hba).mono ?_
               rintro e w3 ⟨rfl, hb3⟩
               have hM3 := hM.below hb3 hM.lt
               have hbb : Below wr.heap.size wr w3 := hba.trans (Below.mono hb3 hba.size)
               have y4 := hM3.cell 4
               have y5 := hM3.cell 5
               have y6 := hM3.cell 6
               have y7 := hM3.cell 7
               simp only [List.getElem?_cons_succ, List.getElem?_cons_zero] at y4 y5 y6 y7
               clear hb3 hM3)
            | (go_at_call 17
               go_loud (refine (hP.out _ hbb (hmh'.out (by first | rfl | trivial))).mono ?_)
               go_loud (rintro e w5 ⟨y9, h50, rfl, hb5⟩)
               have hb6 : Below w.heap.size w w5 := hb.trans (Below.mono (hbb.trans (Below.mono hb5 hbb.size)) hb.size)
               go_loud (have hy : y9 ≤ 300 := by omega)
               clear h50 hb5))
          go_roundw
          case rel => exact ⟨j + 1, by omega, by go_num, Lib.hid (fun k y hk hy => by
            by_cases hkj : k = j
            · subst hkj
              rw [hx'.out] at hy
              injection hy with hy
              subst hy
              exact hyes.out
            · exact hf.out k y (by omega) hy), hb6⟩
          case measure => simp [intOf]; omega
        · have hno := Lib.hid (csml_no hx'.out (by rw [hxs'.out, decide_eq_false hz]; simp))
          go_wp2_with (first
            | (go_at_call 16
               refine (hS.out _ hba).mono ?_
               rintro e w3 ⟨rfl, hb3⟩
               have hM3 := hM.below hb3 hM.lt
               have hbb : Below wr.heap.size wr w3 := hba.trans (Below.mono hb3 hba.size)
               have y4 := hM3.cell 4
               have y5 := hM3.cell 5
               have y6 := hM3.cell 6
               have y7 := hM3.cell 7
               simp only [List.getElem?_cons_succ, List.getElem?_cons_zero] at y4 y5 y6 y7
               clear hb3 hM3)
            | (go_at_call 17
               go_loud (refine (hP.out _ hbb (hmh'.out (by first | rfl | trivial))).mono ?_)
               go_loud (rintro e w5 ⟨y9, h50, rfl, hb5⟩)
               have hb6 : Below w.heap.size w w5 := hb.trans (Below.mono (hbb.trans (Below.mono hb5 hbb.size)) hb.size)
               have hy : 300 < y9 := by omega
               clear h50 hb5))
          go_ret
          exact ⟨ret_b hno.out.symm, hb6⟩
    · obtain rfl : j = L := by omega
      go_wp2_with fail
      go_ret
      exact ⟨ret_b (csml_yes (by rw [hL'.out]; omega) (fun k x hk hx => by rw [hL'.out] at hk; exact hf.out k x hk hx)).symm, hb⟩
end Go.Proofs.YthfelkcomhflnaaDoor
