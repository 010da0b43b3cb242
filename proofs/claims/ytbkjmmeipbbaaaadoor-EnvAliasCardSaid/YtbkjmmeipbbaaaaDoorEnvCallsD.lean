/- What the readers of package env give, on: what a name means, and whether two names mean the same. -/
import Derived.Test.YtbkjmmeipbbaaaaDoorEnvCallsC
namespace Go.Proofs.YtbkjmmeipbbaaaaDoor
open Go.ChangeShapes Go.WideShapes Go.ChangeAt Go.RowKit

theorem find_nil (a : Int) (x : ByteArray) (w : World) :
    Calls Tryd.prog 15 #[.pointer none, .int .i64 a, .string x] w fun e w' => e = .returned (.tuple #[encM.V (0, 0), er 1]) ∧ Went w w' := by
  have hK := Lib.hid (fun w => check_nil a x w)
  rw [er_y (by omega)] at hK ⊢
  simp only [encM]
  go_enter Tryd.func15, Tryd.ntmps15
  go_wp2_with (go_at_call 24; refine (hK.out _).mono ?_; rintro e w' ⟨rfl, rfl⟩)
  exact bodyPost_ret (v := .tuple #[.agg #[.int .i64 0, .int .i64 0], .iface 57 (.int .i64 1)]) (by simp [results, Tryd.results15, go_sem]) rfl ⟨rfl, (Below.refl _ w).alloc (Nat.le_refl _) _⟩

set_option maxRecDepth 100000 in
theorem find_bad (p : Nat) (D : Nat → Prop) (T : EM.Tb) (a : Int) (x : ByteArray) (hx : x.size ≤ 1000) (w : World) (h : Tw w p D T) (hc : EM.ck T a x ≠ 0) :
    Calls Tryd.prog 15 #[.pointer (some ⟨p, 0, none⟩), .int .i64 a, .string x] w fun e w' => e = .returned (.tuple #[encM.V (0, 0), er (EM.ck T a x)]) ∧ Went w w' := by
  have hK := Lib.hid (fun w h => check_any p D T a x (by omega) w h)
  have h' := Lib.hid (h.below ((Below.refl _ w).alloc (Nat.le_refl _) (.cells #[.int .i64 0, .int .i64 0] 24)))
  have hM := Lies.made w 24 #[.int .i64 0, .int .i64 0]
  have hW := (Below.refl _ w).alloc (Nat.le_refl w.heap.size) (.cells #[.int .i64 0, .int .i64 0] 24)
  have hM' := Lib.hid hM
  have hW' := Lib.hid hW
  clear h hx hM hW
  rw [er_y hc] at hK ⊢
  obtain ⟨k, hk⟩ : ∃ k, EM.ck T a x = k := ⟨_, rfl⟩
  rw [hk] at hK hc ⊢
  clear hk hc
  simp only [encM]
  go_enter Tryd.func15, Tryd.ntmps15
  go_wp2_with (
    go_at_call 24
    refine (hK.out _ h'.out).mono ?_
    rintro e w' ⟨rfl, hb⟩
    have hL := Lib.hid (hM'.out.below hb (by simp))
    have l0 : w'.cell? ⟨w.heap.size, 0, none⟩ = some (.int .i64 0) := hL.out.cell 0
    have l1 : w'.cell? ⟨w.heap.size, 1, none⟩ = some (.int .i64 0) := hL.out.cell 1
    have f0 : w'.frozen? ⟨w.heap.size, 0, none⟩ = false := hL.out.free 0
    have f1 : w'.frozen? ⟨w.heap.size, 1, none⟩ = false := hL.out.free 1
    have hb2 := hW'.out.trans (Below.mono hb (by simp))
    clear hb)
  have q := (hL.out.stored 0 (.int .i64 0)).stored 1 (.int .i64 0)
  have q0 := q.cell 0
  have q1 := q.cell 1
  exact bodyPost_ret (v := .tuple #[.agg #[.int .i64 0, .int .i64 0], .iface 57 (.int .i64 k)]) (by simp [results, Tryd.results15, go_sem, q0, q1]) rfl ⟨rfl, (hb2.setCell (Nat.le_refl _) _).setCell (Nat.le_refl _) _⟩

set_option maxRecDepth 100000 in
set_option maxHeartbeats 1000000 in
theorem find_ok (p : Nat) (D : Nat → Prop) (T : EM.Tb) (hO : EM.Ok T) (a : Nat) (x : ByteArray) (hx : x.size ≤ 1000) (w : World) (h : Tw w p D T) (hc : EM.ck T a x = 0) :
    Calls Tryd.prog 15 #[.pointer (some ⟨p, 0, none⟩), .int .i64 a, .string x] w fun e w' => e = .returned (.tuple #[encM.V (EM.mean T (EM.bs T a x)), .nilIface]) ∧ Went w w' := by
  have hK := Lib.hid (fun w h => check_any p D T a x (by omega) w h)
  rw [hc, er_n] at hK
  obtain ⟨-, ha, -⟩ := EM.ck_zero hc
  have ha' : a ≤ T.P.length := by omega
  have hB := Lib.hid (fun w h => binds_any p D T hO a ha' x hx w h)
  have h' := Lib.hid (h.below ((Below.refl _ w).alloc (Nat.le_refl _) (.cells #[.int .i64 0, .int .i64 0] 24)))
  have hM := Lies.made w 24 #[.int .i64 0, .int .i64 0]
  have hW := (Below.refl _ w).alloc (Nat.le_refl w.heap.size) (.cells #[.int .i64 0, .int .i64 0] 24)
  have hM' := Lib.hid hM
  have hW' := Lib.hid hW
  have hat := hO.bs_at (x := x) ha'
  have hnm := hO.bs_nm (a := a) hx
  have hlen := hO.len
  obtain ⟨⟨i, nm⟩, hb0⟩ : ∃ b, EM.bs T a x = b := ⟨_, rfl⟩
  rw [hb0] at hB hat hnm ⊢
  clear h hx hM hW hc ha ha' hO hb0
  simp only [encB] at hB
  simp only at hat hnm
  obtain ⟨L, hL0⟩ : ∃ L, T.P.length = L := ⟨_, rfl⟩
  by_cases hz : i = 0
  · subst hz
    have e : EM.mean T ⟨0, nm⟩ = (T.tp nm).getD (0, 0) := rfl
    rw [e]
    obtain ⟨⟨m1, m2⟩, hm⟩ : ∃ m, (T.tp nm).getD (0, 0) = m := ⟨_, rfl⟩
    rw [hm]
    have hm' := Lib.hid hm
    have hnm' := Lib.hid (show nm.size ≤ maxLen by unfold maxLen; omega)
    clear hm e hat hnm hL0
    simp only [encM]
    rw [show ((0 : Nat) : Int) = 0 from rfl] at hB
    go_enter Tryd.func15, Tryd.ntmps15
    go_wp2_with (first
      | (go_at_call 24
         refine (hK.out _ h'.out).mono ?_
         rintro e w2 ⟨rfl, hb⟩
         have hT2 := Lib.hid (h'.out.below hb)
         have hL2 := Lib.hid (hM'.out.below hb (by simp))
         have hb2 := Lib.hid (hW'.out.trans (Below.mono hb (by simp)))
         clear hb)
      | (go_at_call 28
         refine (hB.out _ hT2.out).mono ?_
         rintro e w3 ⟨rfl, hb⟩
         have hL3 := hL2.out.below hb hL2.out.lt
         have hb3 := Lib.hid (hb2.out.trans (Below.mono hb hb2.out.size))
         have hg := hL3.lt
         have hT4 := (hT2.out.below hb).below ((Below.refl _ w3).alloc (Nat.le_refl _) (.cells #[.int .i64 0, .string nm] 77))
         have hL4 := hL3.alloc (.cells #[.int .i64 0, .string nm] 77)
         have l0 : (w3.alloc (.cells #[.int .i64 0, .string nm] 77)).cell? ⟨w.heap.size, 0, none⟩ = some (.int .i64 0) := hL4.cell 0
         have l1 : (w3.alloc (.cells #[.int .i64 0, .string nm] 77)).cell? ⟨w.heap.size, 1, none⟩ = some (.int .i64 0) := hL4.cell 1
         have f0 : (w3.alloc (.cells #[.int .i64 0, .string nm] 77)).frozen? ⟨w.heap.size, 0, none⟩ = false := hL4.free 0
         have f1 : (w3.alloc (.cells #[.int .i64 0, .string nm] 77)).frozen? ⟨w.heap.size, 1, none⟩ = false := hL4.free 1
         obtain ⟨⟨mt, v, ma, nt, h1, h2, h3, h4, h5, h6, h7, h8⟩, h9, h10⟩ := hT4
         have c0 : (w3.alloc (.cells #[.int .i64 0, .string nm] 77)).cell? ⟨p, 0, none⟩ = some mt := h1.cell 0
         have hlk := (show Mv encM (w3.alloc (.cells #[.int .i64 0, .string nm] 77)).drew 0 mt nt T.tp from h3).look Tryd.underlying59 Tryd.zeroM hnm'.out
         rw [hm'.out] at hlk
         simp only [encM] at hlk
         have hL5 := Lib.hid hL3
         have g0 : w3.cell? ⟨w.heap.size, 0, none⟩ = some (.int .i64 0) := hL3.cell 0
         have g1 : w3.cell? ⟨w.heap.size, 1, none⟩ = some (.int .i64 0) := hL3.cell 1
         have e0 : w3.frozen? ⟨w.heap.size, 0, none⟩ = false := hL3.free 0
         have e1 : w3.frozen? ⟨w.heap.size, 1, none⟩ = false := hL3.free 1
         clear h1 h2 h3 h4 h5 h6 h7 h8 h9 h10 hb hL4 hL3))
    have q := ((hL5.out.stored 0 (.int .i64 m1)).stored 1 (.int .i64 m2)).alloc (.cells #[.int .i64 0, .string nm] 77)
    have q0 := q.cell 0
    have q1 := q.cell 1
    have hq := ((hb3.out.setCell (p := ⟨w.heap.size, 0, none⟩) (Nat.le_refl _) (.int .i64 m1)).setCell (p := ⟨w.heap.size, 1, none⟩) (Nat.le_refl _) (.int .i64 m2)).alloc (by simp; omega) (.cells #[.int .i64 0, .string nm] 77)
    have hq' := Lib.hid hq
    clear q hq
    go_region
    all_goals
      go_wp2
      exact bodyPost_ret (v := .tuple #[.agg #[.int .i64 m1, .int .i64 m2], .nilIface]) (by simp [results, Tryd.results15, go_sem, q0, q1]) rfl ⟨rfl, below_drewN hq'.out 1⟩
  · obtain ⟨j, rfl⟩ : ∃ j, i = j + 1 := ⟨i - 1, by omega⟩
    obtain ⟨⟨up, qn, m1, m2⟩, hq⟩ : ∃ q, T.P[j]? = some q := ⟨_, List.getElem?_eq_getElem (by omega)⟩
    have e : EM.mean T ⟨j + 1, nm⟩ = (m1, m2) := by
      unfold EM.mean
      rw [if_neg (by simp), show (⟨j + 1, nm⟩ : EM.Bd).at_ - 1 = j from rfl, hq]
    rw [e]
    have hj : j < L := by omega
    have hL64 : L ≤ 65536 := by omega
    have hq0 := Lib.hid hq
    have hw1 : IntKind.i64.wrap ((j : Int) + 1 - 1) = j := by rw [IntKind.wrap_i64]; omega
    have hne0 : ¬ (j : Int) + 1 = 0 := by omega
    have hL' := Lib.hid hL0
    clear e hat hnm hq hL0 hz
    simp only [encM]
    rw [show ((j + 1 : Nat) : Int) = (j : Int) + 1 by omega] at hB
    go_enter Tryd.func15, Tryd.ntmps15
    go_wp2_with (first
      | (go_at_call 24
         refine (hK.out _ h'.out).mono ?_
         rintro e w2 ⟨rfl, hb⟩
         have hT2 := Lib.hid (h'.out.below hb)
         have hL2 := Lib.hid (hM'.out.below hb (by simp))
         have hb2 := Lib.hid (hW'.out.trans (Below.mono hb (by simp)))
         clear hb)
      | (go_at_call 28
         refine (hB.out _ hT2.out).mono ?_
         rintro e w3 ⟨rfl, hb⟩
         have hL3 := hL2.out.below hb hL2.out.lt
         have hb3 := Lib.hid (hb2.out.trans (Below.mono hb hb2.out.size))
         have hg := hL3.lt
         have hT4 := (hT2.out.below hb).below ((Below.refl _ w3).alloc (Nat.le_refl _) (.cells #[.int .i64 ((j : Int) + 1), .string nm] 77))
         have hL4 := hL3.alloc (.cells #[.int .i64 ((j : Int) + 1), .string nm] 77)
         have l0 : (w3.alloc (.cells #[.int .i64 ((j : Int) + 1), .string nm] 77)).cell? ⟨w.heap.size, 0, none⟩ = some (.int .i64 0) := hL4.cell 0
         have l1 : (w3.alloc (.cells #[.int .i64 ((j : Int) + 1), .string nm] 77)).cell? ⟨w.heap.size, 1, none⟩ = some (.int .i64 0) := hL4.cell 1
         have f0 : (w3.alloc (.cells #[.int .i64 ((j : Int) + 1), .string nm] 77)).frozen? ⟨w.heap.size, 0, none⟩ = false := hL4.free 0
         have f1 : (w3.alloc (.cells #[.int .i64 ((j : Int) + 1), .string nm] 77)).frozen? ⟨w.heap.size, 1, none⟩ = false := hL4.free 1
         obtain ⟨⟨mt, v, ma, nt, h1, h2, h3, h4, h5, h6, h7, h8⟩, h9, h10⟩ := hT4
         obtain ⟨A, c, rfl⟩ := h2.read
         have c1 : (w3.alloc (.cells #[.int .i64 ((j : Int) + 1), .string nm] 77)).cell? ⟨p, 1, none⟩ = some (.slice A T.P.length c) := h1.cell 1
         obtain ⟨g, rfl, hg1, k0, k1, k2, k3⟩ := h2.cell hq0.out
         rw [hL'.out] at c1
         clear k0 k1
         have hL5 := Lib.hid hL3
         have g0 : w3.cell? ⟨w.heap.size, 0, none⟩ = some (.int .i64 0) := hL3.cell 0
         have g1 : w3.cell? ⟨w.heap.size, 1, none⟩ = some (.int .i64 0) := hL3.cell 1
         have e0 : w3.frozen? ⟨w.heap.size, 0, none⟩ = false := hL3.free 0
         have e1 : w3.frozen? ⟨w.heap.size, 1, none⟩ = false := hL3.free 1
         clear h1 h2 h3 h4 h5 h6 h7 h8 h9 h10 hb hL4 hL3))
    have q := ((hL5.out.stored 0 (.int .i64 m1)).stored 1 (.int .i64 m2)).alloc (.cells #[.int .i64 ((j : Int) + 1), .string nm] 77)
    have q0 := q.cell 0
    have q1 := q.cell 1
    have hq := ((hb3.out.setCell (p := ⟨w.heap.size, 0, none⟩) (Nat.le_refl _) (.int .i64 m1)).setCell (p := ⟨w.heap.size, 1, none⟩) (Nat.le_refl _) (.int .i64 m2)).alloc (by simp; omega) (.cells #[.int .i64 ((j : Int) + 1), .string nm] 77)
    have hq' := Lib.hid hq
    clear q hq
    go_region
    all_goals
      go_wp2
      exact bodyPost_ret (v := .tuple #[.agg #[.int .i64 m1, .int .i64 m2], .nilIface]) (by simp [results, Tryd.results15, go_sem, q0, q1]) rfl ⟨rfl, below_drewN hq'.out 1⟩
end Go.Proofs.YtbkjmmeipbbaaaaDoor
