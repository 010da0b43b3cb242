/- New. -/
import Derived.Test.YtagedholocgahaaGreatDoorTHeapM
namespace Go.Proofs.YtagedholocgahaaGreatDoor
open Go.ChangeShapes Go.WideShapes Go.ChangeAt Go.RowKit

/-- where the cells of a size begin, while New reckons it -/
def Geo.from_ (G : Geo) (c : Nat) : Int := if c = 0 then 51 else if c = 1 then G.b1 else if c = 2 then G.b2 else if c = 3 then G.b3 else G.top
def Geo.part (G : Geo) (c : Nat) (i : Nat) : Int := if i < c then G.from_ i else 0
def Geo.newCells (G : Geo) (c : Nat) : List Value :=
  [.pointer none, .int .i64 G.n.a, .int .i64 G.n.b, .int .i64 G.n.c, .int .i64 G.n.d, .int .i64 (G.part c 0), .int .i64 (G.part c 1), .int .i64 (G.part c 2), .int .i64 (G.part c 3), .int .i64 G.k,
    .int .i64 G.n.a, .int .i64 G.n.b, .int .i64 G.n.c, .int .i64 G.n.d, .int .i64 0, .int .i64 0, .int .i64 0, .int .i64 0, .int .i64 0, .int .i64 0, .bool false, .int .i64 0]
theorem newCells_next (G : Geo) {c : Nat} (hc : c < 4) : (G.newCells c).set (5 + c) (.int .i64 (G.from_ c)) = G.newCells (c + 1) := by
  rcases lt4 hc with rfl | rfl | rfl | rfl <;> rfl
theorem newCells_all (G : Geo) (p : Nat) (ws : List Int) : (G.newCells 4).set 0 (.pointer (some ⟨p, 0, none⟩)) = Hp.cells G ⟨ws, G.n, ⟨0, 0, 0, 0⟩, 0, 0, false, 0⟩ p := rfl
theorem from_next (G : Geo) {c : Nat} (hc : c < 4) : G.from_ (c + 1) = G.from_ c + G.n.at_ c * ln c := by
  rcases lt4 hc with rfl | rfl | rfl | rfl
  · show 51 + 6 * G.n.a = 51 + G.n.a * 6; omega
  · show G.b1 + 10 * G.n.b = G.b1 + G.n.b * 10; omega
  · show G.b2 + 34 * G.n.c = G.b2 + G.n.c * 34; omega
  · show G.b3 + 130 * G.n.d = G.b3 + G.n.d * 130; omega
theorem from_bd {G : Geo} (g : G.ok) (c : Nat) : 51 ≤ G.from_ c ∧ G.from_ c ≤ 1048576 := by
  have := g.lines
  unfold Geo.from_
  (repeat' split) <;> omega

set_option maxRecDepth 100000 in
theorem new_yes (G : Geo) (g : G.ok) (w : World) (ht : Tab w) :
    Calls Tryz.prog 43 #[.agg #[.int .i64 G.n.a, .int .i64 G.n.b, .int .i64 G.n.c, .int .i64 G.n.d], .int .i64 G.k] w fun e w' =>
      ∃ q p b, e = .returned (.tuple #[.pointer (some ⟨q, 0, none⟩), .nilIface]) ∧ Tr w' q p b G G.fresh ∧ Below w.heap.size w w' ∧ w.heap.size ≤ q ∧ w.heap.size ≤ p ∧ w.heap.size ≤ b := by
  obtain ⟨-, -, -, -, -, -, -, -, k0, k1, -⟩ := id g
  have NM := Lib.hid (fun c (hc : c < 4) => g.num hc)
  have FB := Lib.hid (fun c => from_bd g c)
  have LN := Lib.hid (fun c (hc : c < 4) w (ht : Tab w) => length_any c hc w ht)
  have FN := Lib.hid (fun c (hc : c < 4) => from_next G hc)
  have NN := Lib.hid (fun c (hc : c < 4) => newCells_next G hc)
  have hl := g.lines
  have htop : G.from_ 4 = (G.top.toNat : Int) := by
    show G.top = _
    omega
  have SN := Lib.hid (fun w => store_new G.top.toNat (by omega) w)
  have LY := Lib.hid (fun w q p b H hws h => lay_any (q := q) (p := p) (b := b) g H hws w h)
  have TP := Lib.hid htop
  have TB := Lib.hid ht
  clear htop hl ht
  generalize G.top.toNat = N at *
  have HM : Hid (Lies ((w.alloc (.cells #[.int .i64 G.n.a, .int .i64 G.n.b, .int .i64 G.n.c, .int .i64 G.n.d] 22)).alloc (.cells (G.newCells 0).toArray 92)) (w.heap.size + 1) 92 (G.newCells 0)) := by
    have := Lies.made (w.alloc (.cells #[.int .i64 G.n.a, .int .i64 G.n.b, .int .i64 G.n.c, .int .i64 G.n.d] 22)) 92 (G.newCells 0).toArray
    unfold Hid
    simpa using this
  go_enter Tryz.func43, Tryz.ntmps43
  go_wp2_with fail
  go_loopw [7, 25] (fun e v wr => ∃ c : Nat, c ≤ 4 ∧ e = .int .i64 (G.from_ c) ∧ v = .int .i64 c ∧ Lies wr (w.heap.size + 1) 92 (G.newCells c) ∧ Below w.heap.size w wr ∧ w.heap.size + 2 ≤ wr.heap.size) (fun _ v _ => 4 - (intOf v).toNat)
  case atStart => exact ⟨0, by omega, rfl, rfl, HM.out, ((Below.refl _ _).alloc (Nat.le_refl _) _).alloc (by simp) _, by simp⟩
  case round =>
    obtain ⟨c, hc, rfl, rfl, hL, hB, hz⟩ := hrel
    by_cases hc4 : c < 4
    · have hx : ∀ w, (Instr.index 22 (.agg #[.int .i64 G.n.a, .int .i64 G.n.b, .int .i64 G.n.c, .int .i64 G.n.d]) (.int .i64 (c : Int))).run Tryz.prog w = .ok (.int .i64 (G.n.at_ c)) w := index_four G.n c hc4
      obtain ⟨n0, n1, -, -⟩ := NM.out c hc4
      obtain ⟨e0, e1⟩ := FB.out c
      obtain ⟨d0, d1⟩ := FB.out (c + 1)
      have FC := Lib.hid (FN.out c hc4)
      have NC := Lib.hid (NN.out c hc4)
      have l0 := ln_lo c
      have l1 := ln_hi c
      have hp0 : 0 ≤ G.n.at_ c * ln c := Int.mul_nonneg n0 (by omega)
      have hp1 : G.n.at_ c * ln c ≤ 520000 := Int.le_trans (Int.mul_le_mul n1 l1 (by omega) (by omega)) (by decide)
      have hwp : IntKind.i64.wrap (G.n.at_ c * ln c) = G.n.at_ c * ln c := IntWalk.i64_in _ (by omega)
      have HWP := Lib.hid hwp
      have hS := hL.stored (5 + c) (.int .i64 (G.from_ c))
      rw [NC.out] at hS
      have hcc : wr.cell? ⟨w.heap.size + 1, 5 + c, none⟩ = some (.int .i64 0) := by
        rw [hL.cell]
        rcases lt4 hc4 with rfl | rfl | rfl | rfl <;> rfl
      have hff := hL.free (5 + c)
      have hB2 := hB.setCell (p := ⟨w.heap.size + 1, 5 + c, none⟩) (by simp) (.int .i64 (G.from_ c))
      have hT := TB.out.turns (Turns.of_below hB2 (fun _ => False)) (fun h => h)
      have LL := Lib.hid (LN.out c hc4 _ hT)
      have k0 : (0 : Int) ≤ (c : Int) := by omega
      have k4 : (c : Int) < 4 := by omega
      have hSH := Lib.hid hS
      clear hwp hS hT hL
      generalize G.n.at_ c = nn at *
      generalize ln c = ll at *
      generalize hpr : nn * ll = pr at *
      have hwp : IntKind.i64.wrap (nn * ll) = pr := by rw [hpr]; exact HWP.out
      have hws : IntKind.i64.wrap (G.from_ c + pr) = G.from_ c + pr := IntWalk.i64_in _ (by omega)
      clear hpr
      generalize hfc : G.from_ c = fc at *
      clear hfc
      go_wp2_with (go_at_call 78; refine LL.out.mono ?_; rintro e w2 ⟨rfl, rfl⟩)
      go_roundw
      case rel => exact ⟨c + 1, by omega, by rw [FC.out], by go_num, hSH.out, hB2, by simpa using hz⟩
      case measure => simp [intOf]; omega
    · have e4 : c = 4 := by omega
      have hL4 : Hid (Lies wr (w.heap.size + 1) 92 (G.newCells 4)) := by
        unfold Hid
        rw [← e4]
        exact hL
      have TP' : Hid (G.from_ c = (N : Int)) := by
        unfold Hid
        rw [e4]
        exact TP.out
      clear e4 hL
      rw [TP'.out]
      clear TP'
      go_wp2_with (
        go_at_call 79
        refine (SN.out _).mono ?_
        rintro e w2 ⟨rfl, hs2, hb2⟩
        have hL2 := hL4.out.below hb2 (by omega)
        have c0 : w2.cell? ⟨w.heap.size + 1, 0, none⟩ = some (.pointer none) := hL2.cell 0
        have f0 := hL2.free 0)
      have hz2 := hs2.lt
      have hL3 := hL2.stored 0 (.pointer (some ⟨wr.heap.size + 1, 0, none⟩))
      rw [newCells_all G (wr.heap.size + 1) (List.replicate N 0)] at hL3
      have hB2 : Below w.heap.size w w2 := hB.trans (hb2.mono (by omega))
      have hB3 := hB2.setCell (p := ⟨w.heap.size + 1, 0, none⟩) (by simp) (.pointer (some ⟨wr.heap.size + 1, 0, none⟩))
      have hT3 := TB.out.turns (Turns.of_below hB3 (fun _ => False)) (fun h => h)
      have tg := TB.out.1
      have hs3 := hs2.turns ((Turns.refl (· = w.heap.size + 1) w2).setCell (p := ⟨w.heap.size + 1, 0, none⟩) (fun _ => rfl) (.pointer (some ⟨wr.heap.size + 1, 0, none⟩))) (by omega) (by omega)
      have hTr : Tr (w2.setCell ⟨w.heap.size + 1, 0, none⟩ (.pointer (some ⟨wr.heap.size + 1, 0, none⟩))) (w.heap.size + 1) (wr.heap.size + 1) wr.heap.size G ⟨List.replicate N 0, G.n, ⟨0, 0, 0, 0⟩, 0, 0, false, 0⟩ :=
        ⟨hT3, by omega, hL3, hs3⟩
      have hTH := Lib.hid hTr
      clear hTr hL3 hs3 hT3 hL2
      go_wp2_with (
        go_at_call 80
        refine (LY.out _ _ _ _ _ rfl hTH.out).mono ?_
        rintro e w4 ⟨rfl, hs4, ht4⟩)
      go_ret2
      exact ⟨_, _, _, rfl, hs4, hB3.trans (ht4.below (by have := hB3.size; omega) (fun i hi => by unfold Own3 at hi; omega)), by omega, by omega, by omega⟩
end Go.Proofs.YtagedholocgahaaGreatDoor
