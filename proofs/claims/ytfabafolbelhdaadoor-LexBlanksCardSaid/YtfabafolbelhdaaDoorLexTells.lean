/- What the laws' Fault tells of an error. -/
import Derived.Test.YtfabafolbelhdaaDoorLexAs
import Derived.Deep.RegionHeld3
import Derived.Deep.CutRange
namespace Go.Proofs.YtfabafolbelhdaaDoor
open Go.ChangeShapes Go.WideShapes Go.ChangeAt Go.RowKit

theorem Fault_nil (w : World) : Calls Tryd.prog 12 #[.nilIface] w fun e w' => e = .returned (.agg #[.int .i64 0, .int .i64 0, .int .i64 0]) ∧ Went w w' := by
  go_enter Tryd.func12, Tryd.ntmps12
  go_wp2
  exact bodyPost_ret (v := .agg #[.int .i64 0, .int .i64 0, .int .i64 0]) (by simp [results, Tryd.results12, go_sem]) rfl ⟨rfl, (Below.refl _ _).alloc (Nat.le_refl _) _⟩

set_option maxHeartbeats 4000000 in
theorem Fault_at (l c k : Int) (h1 : 1 ≤ k) (h2 : k ≤ 20) (w : World) (hg : ETab w) :
    Calls Tryd.prog 12 #[atv l c k] w fun e w' => e = .returned (.agg #[.int .i64 k, .int .i64 l, .int .i64 c]) ∧ Went w w' := by
  have hnil : ∀ (v : Value) (w : World), (binOp .eql 25 (.iface 58 v) .nilIface).run Tryd.prog w = .ok (.bool false) w := fun v w => by kernel_rfl
  have HI := Lib.hid (fun j b hb W => is_at l c k j b hb W)
  have HA := Lib.hid (fun t W hg hL => as_hit l c k t (.int .i64 0) (.int .i64 0) .nilIface W hg hL)
  unfold atv at HI HA ⊢
  go_enter Tryd.func12, Tryd.ntmps12
  go_wp2
  go_loopw [4] (fun i wr => ∃ j : Int, 1 ≤ j ∧ j ≤ k ∧ i = .int .i64 j ∧ Lies wr w.heap.size 35 [.int .i64 0, .int .i64 0, .int .i64 0] ∧ Lies wr (w.heap.size + 1) 35 [.int .i64 (-1), .int .i64 0, .int .i64 0] ∧ Below w.heap.size w wr) (fun i _ => (k - intOf i).toNat)
  case atStart => exact ⟨1, by omega, h1, rfl, (Lies.made w 35 #[.int .i64 0, .int .i64 0, .int .i64 0]).alloc _, lies_mk2 w _ 35 #[.int .i64 (-1), .int .i64 0, .int .i64 0], ((Below.refl _ _).alloc (Nat.le_refl _) _).alloc (by simp) _⟩
  case round =>
    obtain ⟨j, hj1, hj2, rfl, hR, hO, hb⟩ := hrel
    by_cases hjk : j < k
    · have hne := Lib.hid (HI.out j false (by simp only [beq_eq_false_iff_ne, ne_eq]; omega))
      go_wp2_with (go_at_call 19; refine (hne.out _).mono ?_; rintro e w1 ⟨rfl, hb1⟩)
      go_roundw
      case rel => exact ⟨j + 1, by omega, by omega, rfl, hR.below hb1 hR.lt, hO.below hb1 hO.lt, hb.trans (hb1.mono hb.size)⟩
      case measure => simp [intOf]; omega
    · obtain rfl : j = k := by omega
      have hyes := Lib.hid (HI.out j true (by simp))
      have hT := hg.on hb
      have x0 : wr.cell? ⟨w.heap.size + 1, 0, none⟩ = some (.int .i64 (-1)) := hO.cell 0
      have hz := hO.lt
      go_upto_region 11 with (first
        | (go_at_call 19
           refine (hyes.out _).mono ?_
           rintro e w1 ⟨rfl, hb1⟩
           have hR1 := hR.below hb1 hR.lt
           have hO1 := hO.below hb1 hO.lt
           have hb2 := hb.trans (hb1.mono hb.size)
           have hT1 := hT.on hb1
           have y0 : w1.cell? ⟨w.heap.size + 1, 0, none⟩ = some (.int .i64 (-1)) := hO1.cell 0
           have f1 := hO1.free
           have hz1 := hO1.lt
           have hO2 := (hO1.stored 0 (.int .i64 j)).alloc (.cells #[.int .i64 0, .int .i64 0, .nilIface] 58)
           have hR2 := (hR1.far (p := ⟨w.heap.size + 1, 0, none⟩) (by simp) (.int .i64 j)).alloc (.cells #[.int .i64 0, .int .i64 0, .nilIface] 58)
           have hb3 := (hb2.setCell (p := ⟨w.heap.size + 1, 0, none⟩) (by simp) (.int .i64 j)).alloc (by simp; omega) (.cells #[.int .i64 0, .int .i64 0, .nilIface] 58)
           have hT2 : ETab ((w1.setCell ⟨w.heap.size + 1, 0, none⟩ (.int .i64 j)).alloc (.cells #[.int .i64 0, .int .i64 0, .nilIface] 58)) := hg.on hb3
           have hA2 := Lies.made (w1.setCell ⟨w.heap.size + 1, 0, none⟩ (.int .i64 j)) 58 #[.int .i64 0, .int .i64 0, .nilIface]
           rw [show (w1.setCell ⟨w.heap.size + 1, 0, none⟩ (.int .i64 j)).heap.size = w1.heap.size by simp] at hA2
           have HB := Lib.hid (HA.out w1.heap.size _ hT2 hA2)
           clear x0 hO1 hR1 hT2 hA2 hb2)
        | (go_at_call 20
           refine HB.out.mono ?_
           rintro e w3 ⟨rfl, hA3, ht3⟩
           have hO3 := hO2.turns ht3 (by omega)
           have hR3 := hR2.turns ht3 (by omega)
           have hb4 := hb3.trans (ht3.below hb3.size (fun i hi => by omega))
           have a0 : w3.cell? ⟨w1.heap.size, 0, none⟩ = some (.int .i64 l) := hA3.cell 0
           have a1 : w3.cell? ⟨w1.heap.size, 1, none⟩ = some (.int .i64 c) := hA3.cell 1
           have o0 : w3.cell? ⟨w.heap.size + 1, 0, none⟩ = some (.int .i64 j) := hO3.cell 0
           have o1 : w3.cell? ⟨w.heap.size + 1, 1, none⟩ = some (.int .i64 0) := hO3.cell 1
           have o2 : w3.cell? ⟨w.heap.size + 1, 2, none⟩ = some (.int .i64 0) := hO3.cell 2
           have g3 := hO3.free
           clear y0 f1))
      have e1 : ¬ w1.heap.size = w.heap.size + 1 := by omega
      have e2 : ¬ w.heap.size + 1 = w1.heap.size := by omega
      go_region_held3 (fun w' => w'.cell? ⟨w1.heap.size, 0, none⟩ = some (.int .i64 l) ∧ w'.cell? ⟨w1.heap.size, 1, none⟩ = some (.int .i64 c)) (go_keep) (fail)
      have hO5 := ((hO3.stored 1 (.int .i64 l)).stored 2 (.int .i64 c)).drew
      have hR5 := ((hR3.far (p := ⟨w.heap.size + 1, 1, none⟩) (by simp) (.int .i64 l)).far (p := ⟨w.heap.size + 1, 2, none⟩) (by simp) (.int .i64 c)).drew
      have hb5 := below_drewN ((hb4.setCell (p := ⟨w.heap.size + 1, 1, none⟩) (by simp) (.int .i64 l)).setCell (p := ⟨w.heap.size + 1, 2, none⟩) (by simp) (.int .i64 c)) 1
      generalize hW5 : World.drew _ = W5
      rw [hW5] at hO5 hR5
      have hb6 : Below w.heap.size w W5 := hW5 ▸ hb5
      have o0' : W5.cell? ⟨w.heap.size + 1, 0, none⟩ = some (.int .i64 j) := hO5.cell 0
      have o1' : W5.cell? ⟨w.heap.size + 1, 1, none⟩ = some (.int .i64 l) := hO5.cell 1
      have o2' : W5.cell? ⟨w.heap.size + 1, 2, none⟩ = some (.int .i64 c) := hO5.cell 2
      have r0 : W5.cell? ⟨w.heap.size, 0, none⟩ = some (.int .i64 0) := hR5.cell 0
      have r1 : W5.cell? ⟨w.heap.size, 1, none⟩ = some (.int .i64 0) := hR5.cell 1
      have r2 : W5.cell? ⟨w.heap.size, 2, none⟩ = some (.int .i64 0) := hR5.cell 2
      have rf := hR5.free
      clear hW5 hb5 o0 o1 o2 a0 a1 g3 hO3 hR3 hb4 ht3 hA3 hO5 hR5 hO2 hR2 hb3
      go_wp2_with fail
      exact bodyPost_ret (v := .agg #[.int .i64 j, .int .i64 l, .int .i64 c]) (by simp [results, Tryd.results12, go_sem, r0, r1, r2]) rfl ⟨rfl, ((hb6.setCell (Nat.le_refl _) _).setCell (Nat.le_refl _) _).setCell (Nat.le_refl _) _⟩

set_option maxHeartbeats 4000000 in
theorem Fault_kind (k : Int) (h1 : 1 ≤ k) (h2 : k ≤ 20) (w : World) (hg : ETab w) :
    Calls Tryd.prog 12 #[.iface 48 (.int .i64 k)] w fun e w' => e = .returned (.agg #[.int .i64 k, .int .i64 0, .int .i64 0]) ∧ Went w w' := by
  have hnil : ∀ (v : Value) (w : World), (binOp .eql 25 (.iface 48 v) .nilIface).run Tryd.prog w = .ok (.bool false) w := fun v w => by kernel_rfl
  have HA := Lib.hid (fun t W hg => as_miss k t W hg)
  go_enter Tryd.func12, Tryd.ntmps12
  go_wp2
  go_loop [4] (fun i => ∃ j : Int, 1 ≤ j ∧ j ≤ k ∧ i = .int .i64 j) (fun i => (k - intOf i).toNat)
  case atStart => exact ⟨1, by omega, h1, rfl⟩
  case round =>
    obtain ⟨j, hj1, hj2, rfl⟩ := hrel
    by_cases hjk : j < k
    · have hne := Lib.hid (fun W => is_other k j (by simp only [beq_eq_false_iff_ne, ne_eq]; omega) W)
      go_wp2_with (go_at_call 19; refine (hne.out _).mono ?_; rintro e w1 ⟨rfl, rfl⟩)
      go_round
      case rel => exact ⟨j + 1, by omega, by omega, rfl⟩
      case measure => simp [intOf]; omega
    · obtain rfl : j = k := by omega
      have hb0 : ∀ o1 o2 o3, Below w.heap.size w (((w.alloc o1).alloc o2).alloc o3) := fun o1 o2 o3 => below3' w o1 o2 o3
      go_wp2_with (first
        | (go_at_call 19; refine (is_same _ _).mono ?_; rintro e w' ⟨rfl, rfl⟩)
        | (go_at_call 20
           refine (HA.out _ _ (hg.on (hb0 _ _ _))).mono ?_
           rintro e w3 ⟨rfl, hb3⟩
           have hO3 := ((lies_mk2 w (.cells #[.int .i64 0, .int .i64 0, .int .i64 0] 35) 35 #[.int .i64 j, .int .i64 0, .int .i64 0]).alloc (.cells #[.int .i64 0, .int .i64 0, .nilIface] 58)).below hb3 (by simp)
           have hR3 := (((Lies.made w 35 #[.int .i64 0, .int .i64 0, .int .i64 0]).alloc (.cells #[.int .i64 j, .int .i64 0, .int .i64 0] 35)).alloc (.cells #[.int .i64 0, .int .i64 0, .nilIface] 58)).below hb3 (by simp; omega)
           have hb4 := (hb0 (.cells #[.int .i64 0, .int .i64 0, .int .i64 0] 35) (.cells #[.int .i64 j, .int .i64 0, .int .i64 0] 35) (.cells #[.int .i64 0, .int .i64 0, .nilIface] 58)).trans (hb3.mono (by simp; omega))
           have o0 : w3.cell? ⟨w.heap.size + 1, 0, none⟩ = some (.int .i64 j) := hO3.cell 0
           have o1 : w3.cell? ⟨w.heap.size + 1, 1, none⟩ = some (.int .i64 0) := hO3.cell 1
           have o2 : w3.cell? ⟨w.heap.size + 1, 2, none⟩ = some (.int .i64 0) := hO3.cell 2
           have r0 : w3.cell? ⟨w.heap.size, 0, none⟩ = some (.int .i64 0) := hR3.cell 0
           have r1 : w3.cell? ⟨w.heap.size, 1, none⟩ = some (.int .i64 0) := hR3.cell 1
           have r2 : w3.cell? ⟨w.heap.size, 2, none⟩ = some (.int .i64 0) := hR3.cell 2
           have rf := hR3.free
           clear hO3 hR3 hb3))
      exact bodyPost_ret (v := .agg #[.int .i64 j, .int .i64 0, .int .i64 0]) (by simp [results, Tryd.results12, go_sem, r0, r1, r2]) rfl ⟨rfl, ((hb4.setCell (Nat.le_refl _) _).setCell (Nat.le_refl _) _).setCell (Nat.le_refl _) _⟩
end Go.Proofs.YtfabafolbelhdaaDoor
