/- What One of package read gives; the closed part of every law of layer 8. -/
import Derived.Test.YtfabafolbelhdaaDoorReadDepth
import Derived.Test.YtfabafolbelhdaaDoorLexTells
import Derived.Test.YtfabafolbelhdaaDoorLexAwake
namespace Go.Proofs.YtfabafolbelhdaaDoor
open Go.ChangeShapes Go.WideShapes Go.ChangeAt Go.RowKit

namespace RM
def q1 : Dl := .cons 5 0 [113, 117, 111, 116, 101] .nil (.cons 6 0 [] (.cons 5 0 [97] .nil (.cons 5 0 [98] .nil .nil)) .nil)
def q2 : Dl := .cons 7 0 [] (.cons 5 0 [97] .nil (.cons 5 0 [98] .nil .nil)) (.cons 8 0 [] (.cons 1 1 [] .nil .nil) .nil)
theorem one1 : one ⟨[39, 40, 97, 32, 46, 32, 40, 98, 41, 41, 32, 120], 1, 1, 0⟩ = .ok (⟨6, 0, [], q1⟩, ⟨[32, 120], 1, 11, 8⟩) := by kernel_rfl
theorem one2 : one ⟨[40, 46, 32, 97, 41], 1, 1, 0⟩ = .error (6, 1, 2) := by kernel_rfl
theorem one3 : one ⟨[40, 97], 1, 1, 0⟩ = .error (5, 1, 3) := by kernel_rfl
theorem all4 : all 13 .nil (start [40, 97, 32, 46, 32, 98, 41, 32, 35, 40, 49, 41]) = .ok q2 := by kernel_rfl
end RM

def OPost (w : World) (s : ByteArray) : RM.Re → Ending → World → Prop
  | .error x, e, w' => e = .returned (.tuple #[dt0, .int .i64 0, ekv x]) ∧ Went w w'
  | .ok (d, t), e, w' => ∃ v a i j m, e = .returned (.tuple #[dtv d v, .int .i64 (a : Nat), .nilIface]) ∧ t = stt s a i j m ∧ a ≤ s.size ∧ Dat w' (fun g => w.heap.size ≤ g) v d.is ∧ Went w w'

set_option maxRecDepth 100000 in
set_option maxHeartbeats 8000000 in
theorem one_any (s : ByteArray) (a : Nat) (i j : Int) (hp : Pl s a i j 0) (w : World) :
    Calls Tryd.prog 15 #[.string s, .int .i64 (a : Nat), .int .i64 i, .int .i64 j] w (OPost w s (RM.one (stt s a i j 0))) := by
  have hD := datum_any (begun_all 64 (by omega))
  unfold DatC at hD
  rw [show (65 : Int) - ((64 : Nat) : Int) = 1 by decide] at hD
  have hC := Lib.hid (fun w' r (h : Rd w' r s a i j 0) => hD w' r s a i j 0 h hp)
  rw [show RM.nxt (stt s a i j 0) (RM.beg 64) = RM.one (stt s a i j 0) from rfl] at hC
  clear hD hp
  generalize RM.one (stt s a i j 0) = R at *
  have hR0 := lies_made2 w (.cells zd4.toArray 29) 50 #[.string s, .int .i64 (a : Nat), .int .i64 i, .int .i64 j, .int .i64 0]
  have hL0 := (Lies.made w 29 zd4.toArray).alloc (.cells #[.string s, .int .i64 (a : Nat), .int .i64 i, .int .i64 j, .int .i64 0] 50)
  have hR1 : Rd ((w.alloc (.cells zd4.toArray 29)).alloc (.cells #[.string s, .int .i64 (a : Nat), .int .i64 i, .int .i64 j, .int .i64 0] 50)) (w.heap.size + 1) s a i j 0 := hR0
  unfold zd4 at hR1
  clear hR0
  cases R with
  | error x =>
    unfold RPost at hC
    unfold OPost
    go_enter Tryd.func15, Tryd.ntmps15
    go_wp2_with (
      go_at_call 25
      refine (hC.out _ _ hR1).mono ?_
      rintro e w3 ⟨rfl, ht3⟩
      have hL3 := hL0.turns ht3 (by omega)
      have hz3 := hL3.lt
      have y0 : w3.cell? ⟨w.heap.size, 0, none⟩ = some (.int .i64 0) := hL3.cell 0
      have y1 : w3.cell? ⟨w.heap.size, 1, none⟩ = some (.int .i64 0) := hL3.cell 1
      have y2 : w3.cell? ⟨w.heap.size, 2, none⟩ = some (.string ⟨#[]⟩) := hL3.cell 2
      have y3 : w3.cell? ⟨w.heap.size, 3, none⟩ = some (.slice none 0 0) := hL3.cell 3
      have f3 := hL3.free
      have hb4 : Below w.heap.size w w3 := (((Below.refl _ w).alloc (Nat.le_refl _) _).alloc (by simp) _).trans (ht3.below (by simp; omega) (fun k hk => by omega))
      unfold dt0 ekv)
    have hF := four_lies (four_lies hL3 (.int .i64 0) (.int .i64 0) (.string ⟨#[]⟩) (.slice none 0 0)) (.int .i64 0) (.int .i64 0) (.string ⟨#[]⟩) (.slice none 0 0)
    have q0 := hF.cell 0
    have q1 := hF.cell 1
    have q2 := hF.cell 2
    have q3 := hF.cell 3
    unfold four at q0 q1 q2 q3
    simp only [List.getElem?_cons_zero, List.getElem?_cons_succ] at q0 q1 q2 q3
    exact bodyPost_ret (v := .tuple #[.agg #[.int .i64 0, .int .i64 0, .string ⟨#[]⟩, .slice none 0 0], .int .i64 0, ekv x]) (by simp [results, Tryd.results15, go_sem, q0, q1, q2, q3, ekv]) rfl ⟨rfl, four_below (four_below hb4 (Nat.le_refl _) _ _ _ _) (Nat.le_refl _) _ _ _ _⟩
  | ok p =>
    obtain ⟨d, t⟩ := p
    unfold RPost at hC
    unfold OPost dtv
    go_enter Tryd.func15, Tryd.ntmps15
    go_wp2_with (
      go_at_call 25
      refine (hC.out _ _ hR1).mono ?_
      rintro e w3 ⟨vd, a3, i3, j3, m3, rfl, hst, hp3, hR3, hd3, ht3⟩
      obtain ⟨A3, c3, rfl⟩ := hd3.read
      have hst' := Lib.hid hst
      clear hst
      have hL3 := hL0.turns ht3 (by omega)
      have hz3 := hL3.lt
      have y0 : w3.cell? ⟨w.heap.size, 0, none⟩ = some (.int .i64 0) := hL3.cell 0
      have y1 : w3.cell? ⟨w.heap.size, 1, none⟩ = some (.int .i64 0) := hL3.cell 1
      have y2 : w3.cell? ⟨w.heap.size, 2, none⟩ = some (.string ⟨#[]⟩) := hL3.cell 2
      have y3 : w3.cell? ⟨w.heap.size, 3, none⟩ = some (.slice none 0 0) := hL3.cell 3
      have f3 := hL3.free
      have x1 : w3.cell? ⟨w.heap.size + 1, 1, none⟩ = some (.int .i64 (a3 : Nat)) := Lies.cell hR3 1
      have hb4 : Below w.heap.size w w3 := (((Below.refl _ w).alloc (Nat.le_refl _) _).alloc (by simp) _).trans (ht3.below (by simp; omega) (fun k hk => by omega)))
    have hL4 := four_lies hL3 (.int .i64 d.k) (.int .i64 d.n) (.string ⟨d.s.toArray⟩) (.slice A3 d.is.len c3)
    have hR4 := four_far (g := w.heap.size) hR3 (by omega) (.int .i64 d.k) (.int .i64 d.n) (.string ⟨d.s.toArray⟩) (.slice A3 d.is.len c3)
    have hb5 := four_below hb4 (Nat.le_refl _) (.int .i64 d.k) (.int .i64 d.n) (.string ⟨d.s.toArray⟩) (.slice A3 d.is.len c3)
    have hd4 := (hd3.turns (four_one w3 w.heap.size (.int .i64 d.k) (.int .i64 d.n) (.string ⟨d.s.toArray⟩) (.slice A3 d.is.len c3)) (fun g _ hs hh => by simp at hs; omega)).mono (S' := fun g => w.heap.size < g) (fun g _ hs => by simp at hs; omega)
    unfold four at hL4 hR4 hb5 hd4
    clear y0 y1 y2 y3 x1 f3 hL3 hz3 hR3 hd3 hb4 ht3
    generalize (((w3.setCell ⟨w.heap.size, 0, none⟩ (.int .i64 d.k)).setCell ⟨w.heap.size, 1, none⟩ (.int .i64 d.n)).setCell ⟨w.heap.size, 2, none⟩ (.string ⟨d.s.toArray⟩)).setCell ⟨w.heap.size, 3, none⟩ (.slice A3 d.is.len c3) = W4 at *
    have y0 : W4.cell? ⟨w.heap.size, 0, none⟩ = some (.int .i64 d.k) := hL4.cell 0
    have y1 : W4.cell? ⟨w.heap.size, 1, none⟩ = some (.int .i64 d.n) := hL4.cell 1
    have y2 : W4.cell? ⟨w.heap.size, 2, none⟩ = some (.string ⟨d.s.toArray⟩) := hL4.cell 2
    have y3 : W4.cell? ⟨w.heap.size, 3, none⟩ = some (.slice A3 d.is.len c3) := hL4.cell 3
    have x1 : W4.cell? ⟨w.heap.size + 1, 1, none⟩ = some (.int .i64 (a3 : Nat)) := Lies.cell hR4 1
    have f4 := hL4.free
    have hz4 := hL4.lt
    have hz5 := Lies.lt hR4
    go_region_with (fail)
    all_goals
      go_wp2_with fail
      have hF := (four_lies hL4 (.int .i64 d.k) (.int .i64 d.n) (.string ⟨d.s.toArray⟩) (.slice A3 d.is.len c3)).drew
      have q0 := hF.cell 0
      have q1 := hF.cell 1
      have q2 := hF.cell 2
      have q3 := hF.cell 3
      have hb6 := below_drewN (four_below hb5 (Nat.le_refl _) (.int .i64 d.k) (.int .i64 d.n) (.string ⟨d.s.toArray⟩) (.slice A3 d.is.len c3)) 1
      have hd6 : Dat _ (fun g => w.heap.size ≤ g) _ _ := ((hd4.turns (four_one W4 w.heap.size (.int .i64 d.k) (.int .i64 d.n) (.string ⟨d.s.toArray⟩) (.slice A3 d.is.len c3)) (fun g _ hs hh => by omega)).drew).mono (fun g _ hs => by omega)
      unfold four at q0 q1 q2 q3 hb6 hd6
      simp only [List.getElem?_cons_zero, List.getElem?_cons_succ] at q0 q1 q2 q3
      exact bodyPost_ret (v := .tuple #[.agg #[.int .i64 d.k, .int .i64 d.n, .string ⟨d.s.toArray⟩, .slice A3 d.is.len c3], .int .i64 (a3 : Nat), .nilIface]) (by simp [results, Tryd.results15, go_sem, q0, q1, q2, q3]) rfl ⟨_, a3, i3, j3, m3, rfl, hst'.out, hp3.2.1, hd6, hb6⟩

theorem One_1 (w : World) : Calls Tryd.prog 15 #[.string ⟨#[39, 40, 97, 32, 46, 32, 40, 98, 41, 41, 32, 120]⟩, .int .i64 0, .int .i64 1, .int .i64 1] w fun e w' => ∃ v, e = .returned (.tuple #[.agg #[.int .i64 6, .int .i64 0, .string ⟨#[]⟩, v], .int .i64 10, .nilIface]) ∧ Dat w' (fun g => w.heap.size ≤ g) v RM.q1 ∧ Went w w' := by
  have h := one_any ⟨#[39, 40, 97, 32, 46, 32, 40, 98, 41, 41, 32, 120]⟩ 0 1 1 (by unfold Pl; decide) w
  rw [show RM.one (stt ⟨#[39, 40, 97, 32, 46, 32, 40, 98, 41, 41, 32, 120]⟩ 0 1 1 0) = .ok (⟨6, 0, [], RM.q1⟩, ⟨[32, 120], 1, 11, 8⟩) from RM.one1] at h
  unfold OPost dtv at h
  refine h.mono ?_
  rintro e w' ⟨v, a, i, j, m, rfl, ht, ha, hd, hb⟩
  have h1 : [32, 120] = (⟨#[39, 40, 97, 32, 46, 32, 40, 98, 41, 41, 32, 120]⟩ : ByteArray).data.toList.drop a := congrArg RM.St.l ht
  have h2 := congrArg List.length h1
  rw [List.length_drop, size_len] at h2
  have e12 : (⟨#[39, 40, 97, 32, 46, 32, 40, 98, 41, 41, 32, 120]⟩ : ByteArray).size = 12 := by decide
  rw [e12] at h2 ha
  simp only [List.length_cons, List.length_nil] at h2
  obtain rfl : a = 10 := by omega
  exact ⟨v, rfl, hd, hb⟩
theorem One_2 (w : World) : Calls Tryd.prog 15 #[.string ⟨#[40, 46, 32, 97, 41]⟩, .int .i64 0, .int .i64 1, .int .i64 1] w fun e w' => e = .returned (.tuple #[dt0, .int .i64 0, atv 1 2 6]) ∧ Went w w' := by
  have h := one_any ⟨#[40, 46, 32, 97, 41]⟩ 0 1 1 (by unfold Pl; decide) w
  rw [show RM.one (stt ⟨#[40, 46, 32, 97, 41]⟩ 0 1 1 0) = .error (6, 1, 2) from RM.one2] at h
  exact h
theorem One_3 (w : World) : Calls Tryd.prog 15 #[.string ⟨#[40, 97]⟩, .int .i64 0, .int .i64 1, .int .i64 1] w fun e w' => e = .returned (.tuple #[dt0, .int .i64 0, atv 1 3 5]) ∧ Went w w' := by
  have h := one_any ⟨#[40, 97]⟩ 0 1 1 (by unfold Pl; decide) w
  rw [show RM.one (stt ⟨#[40, 97]⟩ 0 1 1 0) = .error (5, 1, 3) from RM.one3] at h
  exact h
theorem rAll_4 (w : World) : Calls Tryd.prog 8 #[.string ⟨#[40, 97, 32, 46, 32, 98, 41, 32, 35, 40, 49, 41]⟩] w fun e w' => ∃ v, e = .returned (.tuple #[v, .nilIface]) ∧ Dat w' (fun g => w.heap.size ≤ g) v RM.q2 ∧ Went w w' := by
  have h := rAll_any ⟨#[40, 97, 32, 46, 32, 98, 41, 32, 35, 40, 49, 41]⟩ (by decide) w
  rw [show RM.all ((⟨#[40, 97, 32, 46, 32, 98, 41, 32, 35, 40, 49, 41]⟩ : ByteArray).size + 1) .nil (RM.start (⟨#[40, 97, 32, 46, 32, 98, 41, 32, 35, 40, 49, 41]⟩ : ByteArray).data.toList) = .ok RM.q2 from RM.all4] at h
  exact h

set_option maxRecDepth 100000 in
set_option maxHeartbeats 8000000 in
theorem awake08_any (w : World) (hT : ETab w) : Calls Tryd.prog 7 #[] w fun e w' => e = .returned (.bool true) ∧ Went w w' := by
  have ef1 := eql_fault 6 1 2
  have ef2 := eql_fault 5 1 3
  go_enter Tryd.func7, Tryd.ntmps7
  go_wp2_with (first
    | (go_at_call 15
       (with_reducible refine (One_1 _).mono ?_)
       rintro e w1 ⟨v1, rfl, hd1, hb1⟩
       obtain ⟨A1, c1, rfl⟩ := hd1.read
       have hb1' : Went w w1 := hb1)
    | (go_at_call 15
       (with_reducible refine (One_2 _).mono ?_)
       rintro e w2 ⟨rfl, hb2⟩
       unfold dt0
       have hN2 := (Lies.made w1 29 #[.int .i64 6, .int .i64 0, .string ⟨#[]⟩, .slice A1 RM.q1.len c1]).below hb2 (by simp)
       have hz2 := hN2.lt
       have hd2 := (hd1.turns ((Turns.refl (fun _ => False) w1).alloc (.cells #[.int .i64 6, .int .i64 0, .string ⟨#[]⟩, .slice A1 RM.q1.len c1] 29)) (fun _ _ _ h => h)).below hb2
       have hb2' : Went w w2 := hb1'.trans (below_new hb2))
    | (go_at_call 15
       (with_reducible refine (One_3 _).mono ?_)
       rintro e w3 ⟨rfl, hb3⟩
       unfold dt0
       have hN3 := (hN2.alloc (.cells #[.int .i64 0, .int .i64 0, .string ⟨#[]⟩, .slice none 0 0] 29)).below hb3 (by simp; omega)
       have hz3 := hN3.lt
       have hd3 := (hd2.turns ((Turns.refl (fun _ => False) w2).alloc (.cells #[.int .i64 0, .int .i64 0, .string ⟨#[]⟩, .slice none 0 0] 29)) (fun _ _ _ h => h)).below hb3
       have hb3' : Went w w3 := hb2'.trans (below_new hb3))
    | (go_at_call 8
       refine (rAll_4 _).mono ?_
       rintro e w4 ⟨v4, rfl, hd4, hb4⟩
       obtain ⟨A4, c4, rfl⟩ := hd4.read
       have hN4 := (hN3.alloc (.cells #[.int .i64 0, .int .i64 0, .string ⟨#[]⟩, .slice none 0 0] 29)).below hb4 (by simp; omega)
       have hz4 := hN4.lt
       have hd5 := (hd3.turns ((Turns.refl (fun _ => False) w3).alloc (.cells #[.int .i64 0, .int .i64 0, .string ⟨#[]⟩, .slice none 0 0] 29)) (fun _ _ _ h => h)).below hb4
       have hb4' : Went w w4 := hb3'.trans (below_new hb4)
       have n0 : w4.cell? ⟨w1.heap.size, 0, none⟩ = some (.int .i64 6) := hN4.cell 0
       have n3 : w4.cell? ⟨w1.heap.size, 3, none⟩ = some (.slice A1 RM.q1.len c1) := hN4.cell 3
       have r1 := hd5.at_ (i := 1) (x := ⟨6, 0, [], .cons 5 0 [97] .nil (.cons 5 0 [98] .nil .nil)⟩) rfl
       obtain ⟨g1, u1, rfl, hg1, -, -, -, p3, hu1⟩ := r1
       obtain ⟨B1, b1, rfl⟩ := hu1.read
       have r2 := hd4.at_ (i := 0) (x := ⟨7, 0, [], .cons 5 0 [97] .nil (.cons 5 0 [98] .nil .nil)⟩) rfl
       obtain ⟨g4, u4, rfl, hg4, s0, -, -, -, -⟩ := r2
       have r3 := hd4.at_ (i := 1) (x := ⟨8, 0, [], .cons 1 1 [] .nil .nil⟩) rfl
       obtain ⟨_, u5, hgg, _, t0, -, -, -, -⟩ := r3
       cases hgg
       simp only [Nat.reduceMul, Nat.reduceAdd] at p3 s0 t0
       have eq1 : RM.q1.len = 2 := rfl
       have eq2 : RM.q2.len = 2 := rfl
       have eq3 : (RM.Dl.cons 5 0 [97] .nil (.cons 5 0 [98] .nil .nil)).len = 2 := rfl
       rw [eq1] at n3
       rw [eq3] at p3
       rw [eq2]
       have hT4 : ETab w4 := hT.on hb4'
       clear hN4 hd5 hd4 hN3 hd3 hN2 hd2 hd1 hu1 eq1 eq2 eq3)
    | (go_at_call 12
       (with_reducible refine (Fault_at 1 2 6 (by omega) (by omega) _ hT4).mono ?_)
       rintro e w6 ⟨rfl, hb6⟩
       have ce : ∀ (b o : Nat), b < w4.heap.size → w6.cell? ⟨b, o, none⟩ = w4.cell? ⟨b, o, none⟩ := fun b o h => hb6.cell (p := ⟨b, o, none⟩) h
       have s6 := (ce _ _ hg4).trans s0
       have t6 := (ce _ _ hg4).trans t0
       have hz6 : w4.heap.size ≤ w6.heap.size := hb6.size
       have hb6' : Went w w6 := hb4'.trans hb6
       have hT6 : ETab w6 := hT.on hb6'
       clear ce)
    | (go_at_call 12
       (with_reducible refine (Fault_at 1 3 5 (by omega) (by omega) _ hT6).mono ?_)
       rintro e w7 ⟨rfl, hb7⟩
       have ce : ∀ (b o : Nat), b < w6.heap.size → w7.cell? ⟨b, o, none⟩ = w6.cell? ⟨b, o, none⟩ := fun b o h => hb7.cell (p := ⟨b, o, none⟩) h
       have s7 := (ce _ _ (by omega : g4 < w6.heap.size)).trans s6
       have t7 := (ce _ _ (by omega : g4 < w6.heap.size)).trans t6
       have hz7 : w6.heap.size ≤ w7.heap.size := hb7.size
       have hb7' : Went w w7 := hb6'.trans hb7
       clear ce))
  go_ret
  exact ⟨rfl, hb7'⟩
end Go.Proofs.YtfabafolbelhdaaDoor
