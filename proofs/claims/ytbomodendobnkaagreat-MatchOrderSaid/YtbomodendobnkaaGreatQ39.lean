/- What the small functions of package read give: what is wrong at a token, what a mark stands for, a token's kind, joined lists. -/
import Derived.Test.YtbomodendobnkaaGreatQ38
import Derived.Test.YtbomodendobnkaaGreatQ4
import Derived.Deep.RegionLaw
namespace Go.Proofs.YtbomodendobnkaaGreat
open Go.ChangeShapes Go.WideShapes Go.ChangeAt Go.RowKit

def dt0 : Value := .agg #[.int .i64 0, .int .i64 0, .string ⟨#[]⟩, .slice none 0 0]
/-- an error's kind with its place -/
def ekv (e : Int × Int × Int) : Value := .iface 157 (.agg #[.int .i64 e.2.1, .int .i64 e.2.2, .iface 47 (.int .i64 e.1)])

set_option maxRecDepth 100000 in
set_option maxHeartbeats 2000000 in
theorem fault_any (X : LM.Nx) (n : Nat) (x : Int) (w : World) :
    Calls Tryz.prog 62 #[tka6 X n, .iface 47 (.int .i64 x)] w fun e w' => e = .returned (.tuple #[dt0, ekv (x, X.line, X.col)]) ∧ Went w w' := by
  unfold tka6 dt0 ekv
  go_enter Tryz.func62, Tryz.ntmps62
  go_wp2_with fail
  go_region_with (fail)
  all_goals
    go_wp2_with fail
    exact bodyPost_ret (v := .tuple #[.agg #[.int .i64 0, .int .i64 0, .string ⟨#[]⟩, .slice none 0 0], .iface 157 (.agg #[.int .i64 X.line, .int .i64 X.col, .iface 47 (.int .i64 x)])]) (by simp [results, Tryz.results62, go_sem]) rfl ⟨rfl, below_drewN (((Below.refl _ w).alloc (Nat.le_refl _) _).alloc (by simp) _) 1⟩

theorem kindOf_any (X : LM.Nx) (n : Nat) (w : World) :
    Calls Tryz.prog 65 #[tka6 X n] w fun e w' => e = .returned (.int .i64 (RM.kof X.t.k)) ∧ Went w w' := by
  unfold tka6
  generalize X.t.k = k
  unfold RM.kof
  have hb : ∀ v, Went w (w.alloc (.cells v 103)) := fun v => (Below.refl _ w).alloc (Nat.le_refl _) _
  by_cases h9 : k = 9
  · subst h9
    go_enter Tryz.func65, Tryz.ntmps65
    go_wp2_with fail
    go_ret
    exact ⟨rfl, hb _⟩
  by_cases h10 : k = 10
  · subst h10
    go_enter Tryz.func65, Tryz.ntmps65
    go_wp2_with fail
    go_ret
    exact ⟨rfl, hb _⟩
  by_cases h11 : k = 11
  · subst h11
    go_enter Tryz.func65, Tryz.ntmps65
    go_wp2_with fail
    go_ret
    exact ⟨rfl, hb _⟩
  by_cases h12 : k = 12
  · subst h12
    go_enter Tryz.func65, Tryz.ntmps65
    go_wp2_with fail
    go_ret
    exact ⟨rfl, hb _⟩
  rw [if_neg h9, if_neg h10, if_neg h11, if_neg h12]
  have e9 : (k == 9) = false := by simp [h9]
  have e10 : (k == 10) = false := by simp [h10]
  have e11 : (k == 11) = false := by simp [h11]
  have e12 : (k == 12) = false := by simp [h12]
  clear h9 h10 h11 h12
  go_enter Tryz.func65, Tryz.ntmps65
  go_wp2_with fail
  go_ret
  exact ⟨rfl, hb _⟩

theorem nameOf_any (X : LM.Nx) (n : Nat) (w : World) :
    Calls Tryz.prog 78 #[tka6 X n] w fun e w' => e = .returned (.string ⟨(RM.mnm X.t.k).toArray⟩) ∧ Went w w' := by
  unfold tka6
  generalize X.t.k = k
  unfold RM.mnm
  have hb : ∀ v, Went w (w.alloc (.cells v 103)) := fun v => (Below.refl _ w).alloc (Nat.le_refl _) _
  by_cases h9 : k = 5
  · subst h9
    go_enter Tryz.func78, Tryz.ntmps78
    go_wp2_with fail
    go_ret
    exact ⟨rfl, hb _⟩
  by_cases h10 : k = 6
  · subst h10
    go_enter Tryz.func78, Tryz.ntmps78
    go_wp2_with fail
    go_ret
    exact ⟨rfl, hb _⟩
  by_cases h11 : k = 7
  · subst h11
    go_enter Tryz.func78, Tryz.ntmps78
    go_wp2_with fail
    go_ret
    exact ⟨rfl, hb _⟩
  rw [if_neg h9, if_neg h10, if_neg h11]
  have e9 : (k == 5) = false := by simp [h9]
  have e10 : (k == 6) = false := by simp [h10]
  have e11 : (k == 7) = false := by simp [h11]
  clear h9 h10 h11
  go_enter Tryz.func78, Tryz.ntmps78
  go_wp2_with fail
  go_ret
  exact ⟨rfl, hb _⟩
end Go.Proofs.YtbomodendobnkaaGreat

/- What joined of package read gives: the list of some data, behind which a datum stands as the rest. -/
namespace Go.Proofs.YtbomodendobnkaaGreat
open Go.ChangeShapes Go.WideShapes Go.ChangeAt Go.RowKit

def zd4 : List Value := [.int .i64 0, .int .i64 0, .string ⟨#[]⟩, .slice none 0 0]
theorem oneCell_slice (v : Value) {w : World} {B n : Nat} {e : TypeId} {sz : Nat} {xs : List Value} (h : w.ownsRow B e sz v n xs) : v.oneCell' = true := by
  rcases h.2 with ⟨rfl, _⟩ | ⟨g, cap, cur, rfl, _⟩ <;> rfl
set_option maxRecDepth 100000 in
set_option maxHeartbeats 4000000 in
theorem joined_list (w : World) (v vi : Value) (items : RM.Dl) (d : RM.Dm) (S : Nat → Prop) (h : Its w S v items) (hd : Dat w (fun g => S g ∧ v.ownBlock ≠ some g) vi d.is) (hS : ∀ g, w.heap.size ≤ g → S g)
    (hl : items.len + d.is.len ≤ 1000000) (hk : d.k = 6 ∨ d.k = 7) :
    Calls Tryz.prog 89 #[v, .agg #[.int .i64 d.k, .int .i64 d.n, .string ⟨d.s.toArray⟩, vi]] w fun e w' => ∃ v', e = .returned (.agg #[.int .i64 d.k, .int .i64 0, .string ⟨#[]⟩, v']) ∧ Its w' S v' (items.app d.is) ∧ Turns (fun g => v.ownBlock = some g) w w' := by
  have h0 := h.lt
  obtain ⟨cs, h1, -, h2⟩ := h
  obtain ⟨es, k1, -, k3⟩ := hd
  obtain ⟨k, n, s, is⟩ := d
  simp only at hk k1 k3 hl ⊢
  have h1c := Lib.hid (DatAt.one k3)
  have T := Lib.hid (fun (w2 : World) (v' : Value) (w' : World) (ht : Turns (fun _ => False) w w2) hr hg hat (hz : w.heap.size + 1 < w2.heap.size) => Its.grew (S' := fun g => S g ∧ g ≠ w.heap.size + 1) (w := w) (w2 := w2) (w' := w') (x := v') h0 h2 k3 ht hr hg hat (fun g hg hs => ⟨hs, by omega⟩) ⟨hS _ (by omega), by omega⟩)
  clear hS h2 k3
  obtain ⟨A, c, rfl, -⟩ := own_read h1
  obtain ⟨A2, c2, rfl, -⟩ := own_read k1
  rcases hk with rfl | rfl
  · go_enter Tryz.func89, Tryz.ntmps89
    go_wp2_with fail
    go_region_held3 (fun w' => w'.cell? ⟨w.heap.size, 0, none⟩ = some (.int .i64 6) ∧ w'.cell? ⟨w.heap.size, 3, none⟩ = some (.slice A2 is.len c2)) (first | go_keep | with_reducible exact kx | with_reducible exact kz)
      (first | (refine step_append_row (v := .slice A items.len c) (x := .slice A2 is.len c2) (.agg #[.int .i64 0, .int .i64 0, .string ⟨#[]⟩, .slice none 0 0]) 56 Tryz.infoDatum rfl (by decide) rfl _ _ 22 rfl Tryz.underlying22 rfl rfl (own_turns h1 (((Turns.refl (fun _ => False) _).alloc _).alloc _).drew (fun _ _ h => h)) (own_turns k1 (((Turns.refl (fun _ => False) _).alloc _).alloc _).drew (fun _ _ h => h)) h1c.out (by omega) (by omega) (by simp) ?_
                intro v9 w9 hown9 hg9 hat9
                have T1 := Turns.appendedS hg9
                have hI := T.out _ v9 w9 (((Turns.refl (fun _ => False) _).alloc _).alloc _).drew hown9 hg9 hat9 (by simp)
                have ht9 : Turns (fun g => (Value.slice A items.len c).ownBlock = some g) w w9 := ((((Turns.refl _ _).alloc _).alloc _).drew).trans T1
                have hlt := (World.ownsRow.lt h1)
                obtain ⟨A9, c9, rfl, -⟩ := own_read hown9
                have hX9 : Lies w9 w.heap.size 24 [.int .i64 6, .int .i64 n, .string ⟨s.toArray⟩, .slice A2 is.len c2] := (((Lies.made w 24 #[.int .i64 6, .int .i64 n, .string ⟨s.toArray⟩, .slice A2 is.len c2]).alloc _).drew).turns T1 (fun h => by have := (hlt _ h).2; omega)
                have hR9 : Lies w9 (w.heap.size + 1) 24 zd4 := (lies_made2 w _ 24 zd4.toArray).drew.turns T1 (fun h => by have := (hlt _ h).2; omega)
                have kx : w9.cell? ⟨w.heap.size, 0, none⟩ = some (.int .i64 6) ∧ w9.cell? ⟨w.heap.size, 3, none⟩ = some (.slice A2 is.len c2) := ⟨hX9.cell 0, hX9.cell 3⟩
                have y0 : w9.cell? ⟨w.heap.size + 1, 0, none⟩ = some (.int .i64 0) := hR9.cell 0
                have y1 : w9.cell? ⟨w.heap.size + 1, 1, none⟩ = some (.int .i64 0) := hR9.cell 1
                have y2 : w9.cell? ⟨w.heap.size + 1, 2, none⟩ = some (.string ⟨#[]⟩) := hR9.cell 2
                have y3 : w9.cell? ⟨w.heap.size + 1, 3, none⟩ = some (.slice none 0 0) := hR9.cell 3
                have f1 := hR9.free
                have z1 := hR9.lt
                have X5 := four_far hX9 (g := w.heap.size + 1) (by omega) (.int .i64 6) (.int .i64 0) (.string ⟨#[]⟩) (.slice A9 (items.len + is.len) c9)
                have kz := And.intro (X5.cell 0) (X5.cell 3)
                unfold four at kz
                simp only [List.getElem?_cons_zero, List.getElem?_cons_succ] at kz
                clear X5 hX9 hg9 hown9 hat9 T1))
    all_goals
      go_wp2_with fail
      refine bodyPost_ret (v := .agg #[.int .i64 6, .int .i64 0, .string ⟨#[]⟩, .slice A9 (items.len + is.len) c9]) (by simp [results, Tryz.results89, go_sem, y0, y1, y2, y3]) rfl ⟨_, rfl, ?_, ?_⟩
      · exact (hI.turns (four_one w9 (w.heap.size + 1) (.int .i64 6) (.int .i64 0) (.string ⟨#[]⟩) (.slice A9 (items.len + is.len) c9)) (fun g _ hs hh => by have := hs.2; omega)).mono (fun g _ hs => hs.1)
      · exact four_turns ht9 (by omega) (.int .i64 6) (.int .i64 0) (.string ⟨#[]⟩) (.slice A9 (items.len + is.len) c9)
  · go_enter Tryz.func89, Tryz.ntmps89
    go_wp2_with fail
    go_region_held3 (fun w' => w'.cell? ⟨w.heap.size, 0, none⟩ = some (.int .i64 7) ∧ w'.cell? ⟨w.heap.size, 3, none⟩ = some (.slice A2 is.len c2)) (first | go_keep | with_reducible exact kx | with_reducible exact kz)
      (first | (refine step_append_row (v := .slice A items.len c) (x := .slice A2 is.len c2) (.agg #[.int .i64 0, .int .i64 0, .string ⟨#[]⟩, .slice none 0 0]) 56 Tryz.infoDatum rfl (by decide) rfl _ _ 22 rfl Tryz.underlying22 rfl rfl (own_turns h1 (((Turns.refl (fun _ => False) _).alloc _).alloc _).drew (fun _ _ h => h)) (own_turns k1 (((Turns.refl (fun _ => False) _).alloc _).alloc _).drew (fun _ _ h => h)) h1c.out (by omega) (by omega) (by simp) ?_
                intro v9 w9 hown9 hg9 hat9
                have T1 := Turns.appendedS hg9
                have hI := T.out _ v9 w9 (((Turns.refl (fun _ => False) _).alloc _).alloc _).drew hown9 hg9 hat9 (by simp)
                have ht9 : Turns (fun g => (Value.slice A items.len c).ownBlock = some g) w w9 := ((((Turns.refl _ _).alloc _).alloc _).drew).trans T1
                have hlt := (World.ownsRow.lt h1)
                obtain ⟨A9, c9, rfl, -⟩ := own_read hown9
                have hX9 : Lies w9 w.heap.size 24 [.int .i64 7, .int .i64 n, .string ⟨s.toArray⟩, .slice A2 is.len c2] := (((Lies.made w 24 #[.int .i64 7, .int .i64 n, .string ⟨s.toArray⟩, .slice A2 is.len c2]).alloc _).drew).turns T1 (fun h => by have := (hlt _ h).2; omega)
                have hR9 : Lies w9 (w.heap.size + 1) 24 zd4 := (lies_made2 w _ 24 zd4.toArray).drew.turns T1 (fun h => by have := (hlt _ h).2; omega)
                have kx : w9.cell? ⟨w.heap.size, 0, none⟩ = some (.int .i64 7) ∧ w9.cell? ⟨w.heap.size, 3, none⟩ = some (.slice A2 is.len c2) := ⟨hX9.cell 0, hX9.cell 3⟩
                have y0 : w9.cell? ⟨w.heap.size + 1, 0, none⟩ = some (.int .i64 0) := hR9.cell 0
                have y1 : w9.cell? ⟨w.heap.size + 1, 1, none⟩ = some (.int .i64 0) := hR9.cell 1
                have y2 : w9.cell? ⟨w.heap.size + 1, 2, none⟩ = some (.string ⟨#[]⟩) := hR9.cell 2
                have y3 : w9.cell? ⟨w.heap.size + 1, 3, none⟩ = some (.slice none 0 0) := hR9.cell 3
                have f1 := hR9.free
                have z1 := hR9.lt
                have X5 := four_far hX9 (g := w.heap.size + 1) (by omega) (.int .i64 7) (.int .i64 0) (.string ⟨#[]⟩) (.slice A9 (items.len + is.len) c9)
                have kz := And.intro (X5.cell 0) (X5.cell 3)
                unfold four at kz
                simp only [List.getElem?_cons_zero, List.getElem?_cons_succ] at kz
                clear X5 hX9 hg9 hown9 hat9 T1))
    all_goals
      go_wp2_with fail
      refine bodyPost_ret (v := .agg #[.int .i64 7, .int .i64 0, .string ⟨#[]⟩, .slice A9 (items.len + is.len) c9]) (by simp [results, Tryz.results89, go_sem, y0, y1, y2, y3]) rfl ⟨_, rfl, ?_, ?_⟩
      · exact (hI.turns (four_one w9 (w.heap.size + 1) (.int .i64 7) (.int .i64 0) (.string ⟨#[]⟩) (.slice A9 (items.len + is.len) c9)) (fun g _ hs hh => by have := hs.2; omega)).mono (fun g _ hs => hs.1)
      · exact four_turns ht9 (by omega) (.int .i64 7) (.int .i64 0) (.string ⟨#[]⟩) (.slice A9 (items.len + is.len) c9)

theorem own_lit4 (w : World) (o o' : Obj) (t : TypeId) (cs : Array Value) (hs : cs.size = 4 := by rfl) : (((w.alloc o).alloc o').alloc (.cells cs t)).ownsRow 0 t 4 (.slice (some ⟨w.heap.size + 1 + 1, 0, none⟩) 1 1) 1 cs.toList := by
  have := own_one (e := t) (sz := 4) (B := 0) ((w.alloc o).alloc o') cs hs (Nat.zero_le _)
  rwa [show ((w.alloc o).alloc o').heap.size = w.heap.size + 1 + 1 by simp] at this

set_option maxRecDepth 100000 in
set_option maxHeartbeats 4000000 in
theorem joined_more (w : World) (v vi : Value) (items : RM.Dl) (d : RM.Dm) (S : Nat → Prop) (h : Its w S v items) (hd : Dat w (fun g => S g ∧ v.ownBlock ≠ some g) vi d.is) (hS : ∀ g, w.heap.size ≤ g → S g)
    (hl : items.len + 1 ≤ 1000000) (hk : ¬ (d.k = 6 ∨ d.k = 7)) :
    Calls Tryz.prog 89 #[v, .agg #[.int .i64 d.k, .int .i64 d.n, .string ⟨d.s.toArray⟩, vi]] w fun e w' => ∃ v', e = .returned (.agg #[.int .i64 7, .int .i64 0, .string ⟨#[]⟩, v']) ∧ Its w' S v' (items.snoc d) ∧ Turns (fun g => v.ownBlock = some g) w w' := by
  have h0 := h.lt
  obtain ⟨cs, h1, -, h2⟩ := h
  have k3 := DatAt.cell1 hd
  have h1c := Lib.hid (DatAt.one k3)
  obtain ⟨Ai, ci, rfl⟩ := hd.read
  have T := Lib.hid (fun (w2 : World) (v' : Value) (w' : World) (ht : Turns (fun _ => False) w w2) hr hg hat (hz : w.heap.size + 2 < w2.heap.size) => Its.grew (e := RM.Dl.one d) (S' := fun g => S g ∧ g ≠ w.heap.size + 1) (w := w) (w2 := w2) (w' := w') (x := v') h0 h2 k3 ht hr hg hat (fun g hg hs => ⟨hs, by omega⟩) ⟨hS _ (by omega), by omega⟩)
  obtain ⟨k, n, s, is⟩ := d
  simp only at hk hl h1c ⊢
  clear hS h2 k3 hd
  have e6 : (k == 6) = false := by simp; omega
  have e7 : (k == 7) = false := by simp; omega
  clear hk
  obtain ⟨A, c, rfl, -⟩ := own_read h1
  go_enter Tryz.func89, Tryz.ntmps89
  go_wp2_with (
    at_builtin
    refine wpList_append_row (v := .slice A items.len c) (x := .slice (some ⟨w.heap.size + 1 + 1, 0, none⟩) 1 1) (.agg #[.int .i64 0, .int .i64 0, .string ⟨#[]⟩, .slice none 0 0]) 56 Tryz.infoDatum rfl (by decide) rfl _ _ 22 rfl Tryz.underlying22 rfl rfl (own_turns h1 ((((Turns.refl (fun _ => False) _).alloc _).alloc _).alloc _) (fun _ _ h => h)) (own_lit4 w _ _ 24 #[.int .i64 k, .int .i64 n, .string ⟨s.toArray⟩, .slice Ai is.len ci]) h1c.out (by omega) (by omega) (by simp) ?_
    intro v9 w9 hown9 hg9 hat9
    have T1 := Turns.appendedS hg9
    have hI := T.out _ v9 w9 ((((Turns.refl (fun _ => False) _).alloc _).alloc _).alloc _) hown9 hg9 hat9 (by simp)
    have ht9 : Turns (fun g => (Value.slice A items.len c).ownBlock = some g) w w9 := ((((Turns.refl _ _).alloc _).alloc _).alloc _).trans T1
    have hlt := (World.ownsRow.lt h1)
    obtain ⟨A9, c9, rfl, -⟩ := own_read hown9
    have hR9 : Lies w9 (w.heap.size + 1) 24 zd4 := ((lies_made2 w _ 24 zd4.toArray).alloc _).turns T1 (fun h => by have := (hlt _ h).2; omega)
    have y0 : w9.cell? ⟨w.heap.size + 1, 0, none⟩ = some (.int .i64 0) := hR9.cell 0
    have y1 : w9.cell? ⟨w.heap.size + 1, 1, none⟩ = some (.int .i64 0) := hR9.cell 1
    have y2 : w9.cell? ⟨w.heap.size + 1, 2, none⟩ = some (.string ⟨#[]⟩) := hR9.cell 2
    have y3 : w9.cell? ⟨w.heap.size + 1, 3, none⟩ = some (.slice none 0 0) := hR9.cell 3
    have f1 := hR9.free
    have z1 := hR9.lt
    clear hg9 hown9 hat9 T1)
  refine bodyPost_ret (v := .agg #[.int .i64 7, .int .i64 0, .string ⟨#[]⟩, .slice A9 (items.len + 1) c9]) (by simp [results, Tryz.results89, go_sem, y0, y1, y2, y3]) rfl ⟨_, rfl, ?_, ?_⟩
  · exact (hI.turns (four_one w9 (w.heap.size + 1) (.int .i64 7) (.int .i64 0) (.string ⟨#[]⟩) (.slice A9 (items.len + 1) c9)) (fun g _ hs hh => by have := hs.2; omega)).mono (fun g _ hs => hs.1)
  · exact four_turns ht9 (by omega) (.int .i64 7) (.int .i64 0) (.string ⟨#[]⟩) (.slice A9 (items.len + 1) c9)

/-- both -/
theorem joined_any (w : World) (v vi : Value) (items : RM.Dl) (d : RM.Dm) (S : Nat → Prop) (h : Its w S v items) (hd : Dat w (fun g => S g ∧ v.ownBlock ≠ some g) vi d.is) (hS : ∀ g, w.heap.size ≤ g → S g)
    (hl : items.len + d.is.len + 1 ≤ 1000000) :
    Calls Tryz.prog 89 #[v, .agg #[.int .i64 d.k, .int .i64 d.n, .string ⟨d.s.toArray⟩, vi]] w fun e w' => ∃ v', e = .returned (.agg #[.int .i64 (RM.joined items d).k, .int .i64 0, .string ⟨#[]⟩, v']) ∧ Its w' S v' (RM.joined items d).is ∧ Turns (fun g => v.ownBlock = some g) w w' := by
  by_cases hk : d.k = 6 ∨ d.k = 7
  · have e : RM.joined items d = ⟨d.k, 0, [], items.app d.is⟩ := by unfold RM.joined; rw [if_pos hk]
    rw [e]
    exact joined_list w v vi items d S h hd hS (by omega) hk
  · have e : RM.joined items d = ⟨7, 0, [], items.snoc d⟩ := by unfold RM.joined; rw [if_neg hk]
    rw [e]
    exact joined_more w v vi items d S h hd hS (by omega) hk
end Go.Proofs.YtbomodendobnkaaGreat
