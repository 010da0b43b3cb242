/- What the reader's functions owe one another; datum, out of begun. -/
import Derived.Test.YtbomodendobnkaaGreatQ39
namespace Go.Proofs.YtbomodendobnkaaGreat
open Go.ChangeShapes Go.WideShapes Go.ChangeAt Go.RowKit

/-- a datum came of it, and the reader stands behind it; or an error with its place -/
def RPost (w : World) (r : Nat) (s : ByteArray) : RM.Re → Ending → World → Prop
  | .error x, e, w' => e = .returned (.tuple #[dt0, ekv x]) ∧ Turns (fun k => k = r) w w'
  | .ok (d, t), e, w' => ∃ v a i j m, e = .returned (.tuple #[.agg #[.int .i64 d.k, .int .i64 d.n, .string ⟨d.s.toArray⟩, v], .nilIface]) ∧ t = stt s a i j m ∧ Pl s a i j m ∧ Rd w' r s a i j m ∧ Dat w' (fun g => w.heap.size ≤ g) v d.is ∧ Turns (fun k => k = r) w w'
/-- what begun owes, so many levels ahead of the last one -/
def BegC (v : Nat) : Prop := ∀ (w : World) (r : Nat) (s : ByteArray) (a : Nat) (i j : Int) (m : Nat) (X : LM.Nx) (n : Nat), Rd w r s a i j m → (X.t.k ≠ 14 → Pl s a i j m) →
  Calls Tryz.prog 45 #[.pointer (some ⟨r, 0, none⟩), tka6 X n, .int .i64 (65 - (v : Int))] w (RPost w r s (RM.beg v X (stt s a i j m)))
def DatC (v : Nat) : Prop := ∀ (w : World) (r : Nat) (s : ByteArray) (a : Nat) (i j : Int) (m : Nat), Rd w r s a i j m → Pl s a i j m →
  Calls Tryz.prog 77 #[.pointer (some ⟨r, 0, none⟩), .int .i64 (65 - (v : Int))] w (RPost w r s (RM.nxt (stt s a i j m) (RM.beg v)))

/-- behind a token that isn't the end the place may be one -/
theorem Pl.after {s : ByteArray} {a : Nat} {i j : Int} {m : Nat} (hp : Pl s a i j m) (he : (LM.nx (s.data.toList.drop a) i j).t.e = 0) :
    (LM.nx (s.data.toList.drop a) i j).t.k ≠ 14 → Pl s (a + (LM.nx (s.data.toList.drop a) i j).len) (LM.mv (seg s a (LM.nx (s.data.toList.drop a) i j).len) i j).1 (LM.mv (seg s a (LM.nx (s.data.toList.drop a) i j).len) i j).2 (m + 1) := by
  intro hk
  obtain ⟨hs, ha, i0, i1, j0, j1, hm⟩ := hp
  have hx := LM.nx_end (s.data.toList.drop a) i j he
  rw [List.length_drop, size_len] at hx
  rcases hx with h | ⟨-, h1, h2, h3⟩
  · exact absurd h.1 hk
  have hb := LM.mv_bd (seg s a (LM.nx (s.data.toList.drop a) i j).len) i j j0
  rw [seg_len (by omega)] at hb
  exact ⟨hs, by omega, by omega, by omega, by omega, by omega, by omega⟩
theorem nxt_bad {s : ByteArray} {a : Nat} {i j : Int} {m : Nat} (K : LM.Nx → RM.St → RM.Re) (he : (LM.nx (s.data.toList.drop a) i j).t.e ≠ 0) :
    RM.nxt (stt s a i j m) K = .error ((LM.nx (s.data.toList.drop a) i j).t.e, (LM.nx (s.data.toList.drop a) i j).line, (LM.nx (s.data.toList.drop a) i j).col) := by
  unfold RM.nxt; rw [stt_nx, if_pos he]
theorem nxt_good {s : ByteArray} {a : Nat} {i j : Int} {m : Nat} (K : LM.Nx → RM.St → RM.Re) (he : (LM.nx (s.data.toList.drop a) i j).t.e = 0) :
    RM.nxt (stt s a i j m) K = K (LM.nx (s.data.toList.drop a) i j) (stt s (a + (LM.nx (s.data.toList.drop a) i j).len) (LM.mv (seg s a (LM.nx (s.data.toList.drop a) i j).len) i j).1 (LM.mv (seg s a (LM.nx (s.data.toList.drop a) i j).len) i j).2 (m + 1)) := by
  unfold RM.nxt; rw [if_neg (by rw [stt_nx]; simp [he]), stt_nx, stt_after]
theorem erv_ekv (X : LM.Nx) : erv X = ekv (X.t.e, X.line, X.col) := rfl

set_option maxRecDepth 100000 in
set_option maxHeartbeats 4000000 in
theorem datum_any {v : Nat} (hB : BegC v) : DatC v := by
  intro w r s a i j m hR hp
  have hr := hR.lt
  by_cases he : (LM.nx (s.data.toList.drop a) i j).t.e = 0
  · rw [nxt_good _ he]
    have hN := Lib.hid (fun w' (h : Rd w' r s a i j m) => rnext_ok w' r s a i j m h hp he)
    have hP := Lib.hid (hp.after he)
    generalize LM.nx (s.data.toList.drop a) i j = X at *
    generalize (LM.mv (seg s a X.len) i j).1 = i' at *
    generalize (LM.mv (seg s a X.len) i j).2 = j' at *
    generalize a + X.len = a' at *
    have hC := Lib.hid (fun w' (h : Rd w' r s a' i' j' (m + 1)) => hB w' r s a' i' j' (m + 1) X a' h hP.out)
    clear hB hp he
    have hR0 : Rd (w.alloc (.cells zd4.toArray 24)) r s a i j m := Lies.alloc hR _
    unfold zd4 at hR0
    generalize RM.beg v X (stt s a' i' j' (m + 1)) = R at *
    obtain ⟨dp, hdp⟩ : ∃ dp : Int, 65 - (v : Int) = dp := ⟨_, rfl⟩
    rw [hdp] at hC ⊢
    clear hdp
    cases R with
    | error x =>
      unfold RPost at hC ⊢
      go_enter Tryz.func77, Tryz.ntmps77
      go_wp2_with (first
        | (go_at_call 44
           refine (hN.out _ hR0).mono ?_
           rintro e w1 ⟨rfl, hR1, ht1⟩
           unfold tka6
           have hL1 : Lies w1 w.heap.size 24 zd4 := (Lies.made w 24 zd4.toArray).turns ht1 (by omega)
           have hz1 := hL1.lt
           have hR2 : Rd (w1.alloc (.cells #[.int .i64 X.t.k, .int .i64 X.t.n, .string ⟨X.t.s.toArray⟩, .int .i64 X.line, .int .i64 X.col, .int .i64 (a' : Nat)] 103)) r s a' i' j' (m + 1) := Lies.alloc hR1 _)
        | (go_at_call 45
           refine (hC.out _ hR2).mono ?_
           rintro e w3 ⟨rfl, ht3⟩
           have hL3 : Lies w3 w.heap.size 24 zd4 := (hL1.alloc _).turns ht3 (by omega)
           have hz3 := hL3.lt
           have y0 : w3.cell? ⟨w.heap.size, 0, none⟩ = some (.int .i64 0) := hL3.cell 0
           have y1 : w3.cell? ⟨w.heap.size, 1, none⟩ = some (.int .i64 0) := hL3.cell 1
           have y2 : w3.cell? ⟨w.heap.size, 2, none⟩ = some (.string ⟨#[]⟩) := hL3.cell 2
           have y3 : w3.cell? ⟨w.heap.size, 3, none⟩ = some (.slice none 0 0) := hL3.cell 3
           have f3 := hL3.free
           have ht4 : Turns (fun k => k = r) w w3 := ((((Turns.refl _ w).alloc _).trans ht1).alloc _).trans ht3
           unfold dt0 ekv))
      exact bodyPost_ret (v := .tuple #[.agg #[.int .i64 0, .int .i64 0, .string ⟨#[]⟩, .slice none 0 0], ekv x]) (by simp [results, Tryz.results77, go_sem, y0, y1, y2, y3, ekv]) rfl ⟨rfl, four_turns ht4 (Nat.le_refl _) _ _ _ _⟩
    | ok p =>
      obtain ⟨d, t⟩ := p
      unfold RPost at hC ⊢
      go_enter Tryz.func77, Tryz.ntmps77
      go_wp2_with (first
        | (go_at_call 44
           refine (hN.out _ hR0).mono ?_
           rintro e w1 ⟨rfl, hR1, ht1⟩
           unfold tka6
           have hL1 : Lies w1 w.heap.size 24 zd4 := (Lies.made w 24 zd4.toArray).turns ht1 (by omega)
           have hz1 := hL1.lt
           have hR2 : Rd (w1.alloc (.cells #[.int .i64 X.t.k, .int .i64 X.t.n, .string ⟨X.t.s.toArray⟩, .int .i64 X.line, .int .i64 X.col, .int .i64 (a' : Nat)] 103)) r s a' i' j' (m + 1) := Lies.alloc hR1 _)
        | (go_at_call 45
           refine (hC.out _ hR2).mono ?_
           rintro e w3 ⟨vd, a3, i3, j3, m3, rfl, hst, hp3, hR3, hd3, ht3⟩
           obtain ⟨A3, c3, rfl⟩ := hd3.read
           have hst' := Lib.hid hst
           clear hst
           have hL3 : Lies w3 w.heap.size 24 zd4 := (hL1.alloc _).turns ht3 (by omega)
           have hz3 := hL3.lt
           have y0 : w3.cell? ⟨w.heap.size, 0, none⟩ = some (.int .i64 0) := hL3.cell 0
           have y1 : w3.cell? ⟨w.heap.size, 1, none⟩ = some (.int .i64 0) := hL3.cell 1
           have y2 : w3.cell? ⟨w.heap.size, 2, none⟩ = some (.string ⟨#[]⟩) := hL3.cell 2
           have y3 : w3.cell? ⟨w.heap.size, 3, none⟩ = some (.slice none 0 0) := hL3.cell 3
           have f3 := hL3.free
           have ht4 : Turns (fun k => k = r) w w3 := ((((Turns.refl _ w).alloc _).trans ht1).alloc _).trans ht3))
      refine bodyPost_ret (v := .tuple #[.agg #[.int .i64 d.k, .int .i64 d.n, .string ⟨d.s.toArray⟩, .slice A3 d.is.len c3], .nilIface]) (by simp [results, Tryz.results77, go_sem, y0, y1, y2, y3]) rfl ⟨_, a3, i3, j3, m3, rfl, hst'.out, hp3, ?_, ?_, four_turns ht4 (Nat.le_refl _) _ _ _ _⟩
      · exact four_far (g := w.heap.size) hR3 (by omega) _ _ _ _
      · exact (hd3.turns (four_one w3 w.heap.size _ _ _ _) (fun g _ hs hh => by simp at hs; omega)).mono (fun g _ hs => by simp at hs; omega)
  · rw [nxt_bad _ he]
    have hN := Lib.hid (fun w' (h : Rd w' r s a i j m) => rnext_bad w' r s a i j m h hp he)
    generalize LM.nx (s.data.toList.drop a) i j = X at *
    clear hB hp he
    have hR0 : Rd (w.alloc (.cells zd4.toArray 24)) r s a i j m := Lies.alloc hR _
    unfold zd4 at hR0
    unfold RPost
    go_enter Tryz.func77, Tryz.ntmps77
    go_wp2_with (
      go_at_call 44
      refine (hN.out _ hR0).mono ?_
      rintro e w1 ⟨rfl, hb1⟩
      unfold tk0 erv
      have hL1 : Lies w1 w.heap.size 24 zd4 := (Lies.made w 24 zd4.toArray).below hb1 (by simp)
      have hz1 := hL1.lt
      have y0 : w1.cell? ⟨w.heap.size, 0, none⟩ = some (.int .i64 0) := hL1.cell 0
      have y1 : w1.cell? ⟨w.heap.size, 1, none⟩ = some (.int .i64 0) := hL1.cell 1
      have y2 : w1.cell? ⟨w.heap.size, 2, none⟩ = some (.string ⟨#[]⟩) := hL1.cell 2
      have y3 : w1.cell? ⟨w.heap.size, 3, none⟩ = some (.slice none 0 0) := hL1.cell 3
      have f3 := hL1.free
      have ht4 : Turns (fun k => k = r) w w1 := ((Turns.refl _ w).alloc _).trans (Turns.of_below hb1 _))
    have hF := (four_lies hL1 (.int .i64 0) (.int .i64 0) (.string ⟨#[]⟩) (.slice none 0 0)).alloc (.cells #[.int .i64 0, .int .i64 0, .string ⟨#[]⟩, .int .i64 0, .int .i64 0, .int .i64 0] 103)
    have q0 := hF.cell 0
    have q1 := hF.cell 1
    have q2 := hF.cell 2
    have q3 := hF.cell 3
    have ht5 := (four_turns ht4 (Nat.le_refl _) (.int .i64 0) (.int .i64 0) (.string ⟨#[]⟩) (.slice none 0 0)).alloc (.cells #[.int .i64 0, .int .i64 0, .string ⟨#[]⟩, .int .i64 0, .int .i64 0, .int .i64 0] 103)
    unfold four at q0 q1 q2 q3 ht5
    simp only [List.getElem?_cons_zero, List.getElem?_cons_succ] at q0 q1 q2 q3
    exact bodyPost_ret (v := .tuple #[.agg #[.int .i64 0, .int .i64 0, .string ⟨#[]⟩, .slice none 0 0], ekv (X.t.e, X.line, X.col)]) (by simp [results, Tryz.results77, go_sem, q0, q1, q2, q3, ekv]) rfl ⟨rfl, ht5⟩
end Go.Proofs.YtbomodendobnkaaGreat

/- What marked of package read gives. -/
namespace Go.Proofs.YtbomodendobnkaaGreat
open Go.ChangeShapes Go.WideShapes Go.ChangeAt Go.RowKit

def MarkC (v : Nat) : Prop := ∀ (w : World) (r : Nat) (s : ByteArray) (a : Nat) (i j : Int) (m : Nat) (X : LM.Nx) (n : Nat), Rd w r s a i j m → Pl s a i j m →
  Calls Tryz.prog 64 #[.pointer (some ⟨r, 0, none⟩), tka6 X n, .int .i64 (64 - (v : Int))] w (RPost w r s (RM.mark (RM.beg v) X.t.k (stt s a i j m)))
def mapM (k : Int) : RM.Re → RM.Re
  | .error x => .error x
  | .ok (d, t) => .ok (RM.marked k d, t)
theorem mark_map (B : LM.Nx → RM.St → RM.Re) (k : Int) (s : RM.St) : RM.mark B k s = mapM k (RM.nxt s B) := by
  unfold RM.mark RM.nxt
  by_cases h : s.nx.t.e ≠ 0
  · rw [if_pos h, if_pos h]; rfl
  · rw [if_neg h, if_neg h]
    dsimp only
    cases B s.nx s.after with
    | error x => rfl
    | ok p => rfl
theorem own_lit8 (w : World) (t : TypeId) (cs : Array Value) (hs : cs.size = 8 := by rfl) : (w.alloc (.cells cs t)).ownsRow 0 t 4 (.slice (some ⟨w.heap.size, 0, none⟩) 2 2) 2 cs.toList :=
  World.ownsRow_lit (base := 0) (e := t) (size := 4) w cs 2 (Nat.zero_le _) (by decide) (by omega)

set_option maxRecDepth 100000 in
set_option maxHeartbeats 8000000 in
theorem marked_of {v : Nat} (hv : v ≤ 64) (hD : DatC v) : MarkC v := by
  intro w r s a i j m X n hR hp
  have hr := hR.lt
  rw [mark_map]
  have hC := Lib.hid (fun w' (h : Rd w' r s a i j m) => hD w' r s a i j m h hp)
  have hM := Lib.hid (fun w' => nameOf_any X n w')
  clear hD hp
  have hR0 : Rd ((w.alloc (.cells #[.int .i64 X.t.k, .int .i64 X.t.n, .string ⟨X.t.s.toArray⟩, .int .i64 X.line, .int .i64 X.col, .int .i64 (n : Nat)] 103)).alloc (.cells zd4.toArray 24)) r s a i j m := Lies.alloc (Lies.alloc hR _) _
  unfold zd4 at hR0
  generalize RM.nxt (stt s a i j m) (RM.beg v) = R at *
  obtain ⟨dp, hdp⟩ : ∃ dp : Int, 64 - (v : Int) = dp := ⟨_, rfl⟩
  rw [hdp]
  have hd0 : 0 ≤ dp := by omega
  have hd1 : dp ≤ 64 := by omega
  rw [show 65 - (v : Int) = dp + 1 by omega] at hC
  clear hdp hv
  unfold tka6 at hM ⊢
  cases R with
  | error x =>
    unfold mapM
    unfold RPost at hC ⊢
    go_enter Tryz.func64, Tryz.ntmps64
    go_wp2_with (
      go_at_call 77
      refine (hC.out _ hR0).mono ?_
      rintro e w3 ⟨rfl, ht3⟩
      have hL3 : Lies w3 (w.heap.size + 1) 24 zd4 := (lies_made2 w _ 24 zd4.toArray).turns ht3 (by omega)
      have hz3 := hL3.lt
      have y0 : w3.cell? ⟨w.heap.size + 1, 0, none⟩ = some (.int .i64 0) := hL3.cell 0
      have y1 : w3.cell? ⟨w.heap.size + 1, 1, none⟩ = some (.int .i64 0) := hL3.cell 1
      have y2 : w3.cell? ⟨w.heap.size + 1, 2, none⟩ = some (.string ⟨#[]⟩) := hL3.cell 2
      have y3 : w3.cell? ⟨w.heap.size + 1, 3, none⟩ = some (.slice none 0 0) := hL3.cell 3
      have f3 := hL3.free
      have ht4 : Turns (fun k => k = r) w w3 := (((Turns.refl _ w).alloc _).alloc _).trans ht3
      unfold dt0 ekv)
    have hF := (four_lies hL3 (.int .i64 0) (.int .i64 0) (.string ⟨#[]⟩) (.slice none 0 0)).alloc (.cells #[.int .i64 0, .int .i64 0, .string ⟨#[]⟩, .slice none 0 0] 24)
    have q0 := hF.cell 0
    have q1 := hF.cell 1
    have q2 := hF.cell 2
    have q3 := hF.cell 3
    have ht5 := (four_turns ht4 (g := w.heap.size + 1) (by omega) (.int .i64 0) (.int .i64 0) (.string ⟨#[]⟩) (.slice none 0 0)).alloc (.cells #[.int .i64 0, .int .i64 0, .string ⟨#[]⟩, .slice none 0 0] 24)
    unfold four at q0 q1 q2 q3 ht5
    simp only [List.getElem?_cons_zero, List.getElem?_cons_succ] at q0 q1 q2 q3
    exact bodyPost_ret (v := .tuple #[.agg #[.int .i64 0, .int .i64 0, .string ⟨#[]⟩, .slice none 0 0], ekv x]) (by simp [results, Tryz.results64, go_sem, q0, q1, q2, q3, ekv]) rfl ⟨rfl, ht5⟩
  | ok p =>
    obtain ⟨d, t⟩ := p
    unfold mapM
    unfold RPost at hC ⊢
    simp only [RM.marked]
    generalize hnm : RM.mnm X.t.k = nm at *
    go_enter Tryz.func64, Tryz.ntmps64
    go_wp2_with (
      go_at_call 77
      refine (hC.out _ hR0).mono ?_
      rintro e w3 ⟨vd, a3, i3, j3, m3, rfl, hst, hp3, hR3, hd3, ht3⟩
      obtain ⟨A3, c3, rfl⟩ := hd3.read
      have hst' := Lib.hid hst
      clear hst
      have hL3 : Lies w3 (w.heap.size + 1) 24 zd4 := (lies_made2 w _ 24 zd4.toArray).turns ht3 (by omega)
      have hT3 := ((Lies.made w 103 #[.int .i64 X.t.k, .int .i64 X.t.n, .string ⟨X.t.s.toArray⟩, .int .i64 X.line, .int .i64 X.col, .int .i64 (n : Nat)]).alloc (.cells #[.int .i64 0, .int .i64 0, .string ⟨#[]⟩, .slice none 0 0] 24)).turns ht3 (by omega)
      have hz3 := hL3.lt
      have ht4 : Turns (fun k => k = r) w w3 := (((Turns.refl _ w).alloc _).alloc _).trans ht3
      have x0 : w3.cell? ⟨w.heap.size, 0, none⟩ = some (.int .i64 X.t.k) := hT3.cell 0
      have x1 : w3.cell? ⟨w.heap.size, 1, none⟩ = some (.int .i64 X.t.n) := hT3.cell 1
      have x2 : w3.cell? ⟨w.heap.size, 2, none⟩ = some (.string ⟨X.t.s.toArray⟩) := hT3.cell 2
      have x3 : w3.cell? ⟨w.heap.size, 3, none⟩ = some (.int .i64 X.line) := hT3.cell 3
      have x4 : w3.cell? ⟨w.heap.size, 4, none⟩ = some (.int .i64 X.col) := hT3.cell 4
      have x5 : w3.cell? ⟨w.heap.size, 5, none⟩ = some (.int .i64 (n : Nat)) := hT3.cell 5)
    go_region_held3 (fun w' => w'.cell? ⟨w.heap.size, 0, none⟩ = some (.int .i64 X.t.k) ∧ w'.cell? ⟨w.heap.size, 1, none⟩ = some (.int .i64 X.t.n) ∧ w'.cell? ⟨w.heap.size, 2, none⟩ = some (.string ⟨X.t.s.toArray⟩) ∧ w'.cell? ⟨w.heap.size, 3, none⟩ = some (.int .i64 X.line) ∧ w'.cell? ⟨w.heap.size, 4, none⟩ = some (.int .i64 X.col) ∧ w'.cell? ⟨w.heap.size, 5, none⟩ = some (.int .i64 (n : Nat)) ∧
        w'.cell? ⟨w3.heap.size, 0, none⟩ = some (.int .i64 d.k) ∧ w'.cell? ⟨w3.heap.size, 1, none⟩ = some (.int .i64 d.n) ∧ w'.cell? ⟨w3.heap.size, 2, none⟩ = some (.string ⟨d.s.toArray⟩) ∧ w'.cell? ⟨w3.heap.size, 3, none⟩ = some (.slice A3 d.is.len c3)) (first | go_keep | with_reducible exact kx | ((repeat' apply And.intro) <;> go_keep))
      (first
        | (go_at_call 78
           refine (hM.out _).mono ?_
           rintro e w4 ⟨rfl, hb4⟩
           have hT4 := ((hT3.alloc (.cells #[.int .i64 d.k, .int .i64 d.n, .string ⟨d.s.toArray⟩, .slice A3 d.is.len c3] 24)).drew).below hb4 (by simp; omega)
           have hD4 := ((Lies.made w3 24 #[.int .i64 d.k, .int .i64 d.n, .string ⟨d.s.toArray⟩, .slice A3 d.is.len c3]).drew).below hb4 (by simp)
           have hL4 := ((hL3.alloc (.cells #[.int .i64 d.k, .int .i64 d.n, .string ⟨d.s.toArray⟩, .slice A3 d.is.len c3] 24)).drew).below hb4 (by simp; omega)
           have kx : w4.cell? ⟨w.heap.size, 0, none⟩ = some (.int .i64 X.t.k) ∧ w4.cell? ⟨w.heap.size, 1, none⟩ = some (.int .i64 X.t.n) ∧ w4.cell? ⟨w.heap.size, 2, none⟩ = some (.string ⟨X.t.s.toArray⟩) ∧ w4.cell? ⟨w.heap.size, 3, none⟩ = some (.int .i64 X.line) ∧ w4.cell? ⟨w.heap.size, 4, none⟩ = some (.int .i64 X.col) ∧ w4.cell? ⟨w.heap.size, 5, none⟩ = some (.int .i64 (n : Nat)) ∧
               w4.cell? ⟨w3.heap.size, 0, none⟩ = some (.int .i64 d.k) ∧ w4.cell? ⟨w3.heap.size, 1, none⟩ = some (.int .i64 d.n) ∧ w4.cell? ⟨w3.heap.size, 2, none⟩ = some (.string ⟨d.s.toArray⟩) ∧ w4.cell? ⟨w3.heap.size, 3, none⟩ = some (.slice A3 d.is.len c3) :=
             ⟨hT4.cell 0, hT4.cell 1, hT4.cell 2, hT4.cell 3, hT4.cell 4, hT4.cell 5, hD4.cell 0, hD4.cell 1, hD4.cell 2, hD4.cell 3⟩
           have hz4 := hD4.lt
           have hz5 := hL4.lt
           have hne1 : ¬ w3.heap.size = w.heap.size + 1 := by omega
           have hne2 : ¬ w.heap.size + 1 = w3.heap.size := by omega
           have y0 : w4.cell? ⟨w.heap.size + 1, 0, none⟩ = some (.int .i64 0) := hL4.cell 0
           have y1 : w4.cell? ⟨w.heap.size + 1, 1, none⟩ = some (.int .i64 0) := hL4.cell 1
           have y2 : w4.cell? ⟨w.heap.size + 1, 2, none⟩ = some (.string ⟨#[]⟩) := hL4.cell 2
           have y3 : w4.cell? ⟨w.heap.size + 1, 3, none⟩ = some (.slice none 0 0) := hL4.cell 3
           have f4 := hL4.free
           have hb5 : Below w3.heap.size w3 w4 := ((Below.refl _ w3).alloc (Nat.le_refl _) _).trans (below_of_drew (hb4.mono (by simp)))
           clear hb4 x0 x1 x2 x3 x4 x5))
    all_goals
      go_wp2_with fail
      have e4 : (four w4 (w.heap.size + 1) (.int .i64 6) (.int .i64 0) (.string ⟨#[]⟩) (.slice (some ⟨w4.heap.size, 0, none⟩) 2 2)).heap.size = w4.heap.size := by unfold four; simp
      have hF := (four_lies hL4 (.int .i64 6) (.int .i64 0) (.string ⟨#[]⟩) (.slice (some ⟨w4.heap.size, 0, none⟩) 2 2)).alloc (.cells #[.int .i64 5, .int .i64 0, .string ⟨nm.toArray⟩, .slice none 0 0, .int .i64 d.k, .int .i64 d.n, .string ⟨d.s.toArray⟩, .slice A3 d.is.len c3] 24)
      have q0 := hF.cell 0
      have q1 := hF.cell 1
      have q2 := hF.cell 2
      have q3 := hF.cell 3
      have hR5 := (four_far (g := w.heap.size + 1) (Lies.below hR3 hb5 hR3.lt) (by omega) (.int .i64 6) (.int .i64 0) (.string ⟨#[]⟩) (.slice (some ⟨w4.heap.size, 0, none⟩) 2 2)).alloc (.cells #[.int .i64 5, .int .i64 0, .string ⟨nm.toArray⟩, .slice none 0 0, .int .i64 d.k, .int .i64 d.n, .string ⟨d.s.toArray⟩, .slice A3 d.is.len c3] 24)
      have ht5 := (four_turns (ht4.trans (Turns.of_below hb5 _)) (g := w.heap.size + 1) (by omega) (.int .i64 6) (.int .i64 0) (.string ⟨#[]⟩) (.slice (some ⟨w4.heap.size, 0, none⟩) 2 2)).alloc (.cells #[.int .i64 5, .int .i64 0, .string ⟨nm.toArray⟩, .slice none 0 0, .int .i64 d.k, .int .i64 d.n, .string ⟨d.s.toArray⟩, .slice A3 d.is.len c3] 24)
      have hd5 : Dat ((four w4 (w.heap.size + 1) (.int .i64 6) (.int .i64 0) (.string ⟨#[]⟩) (.slice (some ⟨w4.heap.size, 0, none⟩) 2 2)).alloc (.cells #[.int .i64 5, .int .i64 0, .string ⟨nm.toArray⟩, .slice none 0 0, .int .i64 d.k, .int .i64 d.n, .string ⟨d.s.toArray⟩, .slice A3 d.is.len c3] 24)) (fun g => w.heap.size ≤ g) (.slice A3 d.is.len c3) d.is :=
        (((hd3.below hb5).turns (four_one w4 (w.heap.size + 1) _ _ _ _) (fun g _ hs hh => by simp at hs; omega)).turns ((Turns.refl (fun _ => False) _).alloc _) (fun _ _ _ h => h)).mono (fun g _ hs => by simp at hs; omega)
      have ho5 := own_lit8 (four w4 (w.heap.size + 1) (.int .i64 6) (.int .i64 0) (.string ⟨#[]⟩) (.slice (some ⟨w4.heap.size, 0, none⟩) 2 2)) 24 #[.int .i64 5, .int .i64 0, .string ⟨nm.toArray⟩, .slice none 0 0, .int .i64 d.k, .int .i64 d.n, .string ⟨d.s.toArray⟩, .slice A3 d.is.len c3]
      rw [e4] at ho5
      have hdd : Dat ((four w4 (w.heap.size + 1) (.int .i64 6) (.int .i64 0) (.string ⟨#[]⟩) (.slice (some ⟨w4.heap.size, 0, none⟩) 2 2)).alloc (.cells #[.int .i64 5, .int .i64 0, .string ⟨nm.toArray⟩, .slice none 0 0, .int .i64 d.k, .int .i64 d.n, .string ⟨d.s.toArray⟩, .slice A3 d.is.len c3] 24)) (fun g => w.heap.size ≤ g) (.slice (some ⟨w4.heap.size, 0, none⟩) 2 2) (.cons 5 0 nm .nil (.one d)) :=
        ⟨_, ho5, (fun g hg => by injection hg with hg; subst hg; show w.heap.size ≤ w4.heap.size; omega), .slice none 0 0, [], [.int .i64 d.k, .int .i64 d.n, .string ⟨d.s.toArray⟩, .slice A3 d.is.len c3], rfl, own_none _ 0 _ 4, (fun g hg => by cases hg), rfl, DatAt.cell1 hd5⟩
      clear hd5 ho5
      unfold four at q0 q1 q2 q3 hR5 ht5 hdd
      simp only [List.getElem?_cons_zero, List.getElem?_cons_succ] at q0 q1 q2 q3
      exact bodyPost_ret (v := .tuple #[.agg #[.int .i64 6, .int .i64 0, .string ⟨#[]⟩, .slice (some ⟨w4.heap.size, 0, none⟩) 2 2], .nilIface]) (by simp [results, Tryz.results64, go_sem, q0, q1, q2, q3]) rfl ⟨_, a3, i3, j3, m3, rfl, hst'.out, hp3, hR5, hdd, ht5⟩
end Go.Proofs.YtbomodendobnkaaGreat
