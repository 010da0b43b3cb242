/- What joined of package read gives: the list of some data, behind which a datum stands as the rest. -/
import Derived.Test.YtfabafolbelhdaaDoorReadCalls
namespace Go.Proofs.YtfabafolbelhdaaDoor
open Go.ChangeShapes Go.WideShapes Go.ChangeAt Go.RowKit

def zd4 : List Value := [.int .i64 0, .int .i64 0, .string ⟨#[]⟩, .slice none 0 0]
theorem oneCell_slice (v : Value) {w : World} {B n : Nat} {e : TypeId} {sz : Nat} {xs : List Value} (h : w.ownsRow B e sz v n xs) : v.oneCell' = true := by
  rcases h.2 with ⟨rfl, _⟩ | ⟨g, cap, cur, rfl, _⟩ <;> rfl
/-- four cells of a block are stored anew -/
def four (w : World) (g : Nat) (x0 x1 x2 x3 : Value) : World := (((w.setCell ⟨g, 0, none⟩ x0).setCell ⟨g, 1, none⟩ x1).setCell ⟨g, 2, none⟩ x2).setCell ⟨g, 3, none⟩ x3
section
variable {w a : World} {g h B : Nat} {t : TypeId} {cs : List Value} {X : Nat → Prop}
theorem four_far (hL : Lies w h t cs) (hne : h ≠ g) (x0 x1 x2 x3 : Value) : Lies (four w g x0 x1 x2 x3) h t cs :=
  (((hL.far (p := ⟨g, 0, none⟩) hne _).far (p := ⟨g, 1, none⟩) hne _).far (p := ⟨g, 2, none⟩) hne _).far (p := ⟨g, 3, none⟩) hne _
theorem four_lies {y0 y1 y2 y3 : Value} (hL : Lies w g t [y0, y1, y2, y3]) (x0 x1 x2 x3 : Value) : Lies (four w g x0 x1 x2 x3) g t [x0, x1, x2, x3] :=
  (((hL.stored 0 x0).stored 1 x1).stored 2 x2).stored 3 x3
theorem four_below (h : Below B a w) (hg : B ≤ g) (x0 x1 x2 x3 : Value) : Below B a (four w g x0 x1 x2 x3) :=
  (((h.setCell (p := ⟨g, 0, none⟩) hg _).setCell (p := ⟨g, 1, none⟩) hg _).setCell (p := ⟨g, 2, none⟩) hg _).setCell (p := ⟨g, 3, none⟩) hg _
theorem four_turns (h : Turns X a w) (hg : a.heap.size ≤ g) (x0 x1 x2 x3 : Value) : Turns X a (four w g x0 x1 x2 x3) :=
  have no : ∀ o, (⟨g, o, none⟩ : Addr).block < a.heap.size → X g := fun o hh => absurd hh (by simp; omega)
  (((h.setCell (p := ⟨g, 0, none⟩) (no 0) _).setCell (p := ⟨g, 1, none⟩) (no 1) _).setCell (p := ⟨g, 2, none⟩) (no 2) _).setCell (p := ⟨g, 3, none⟩) (no 3) _
theorem four_one (w : World) (g : Nat) (x0 x1 x2 x3 : Value) : Turns (fun k => k = g) w (four w g x0 x1 x2 x3) :=
  ((((Turns.refl (fun k => k = g) w).setCell (p := ⟨g, 0, none⟩) (fun _ => rfl) _).setCell (p := ⟨g, 1, none⟩) (fun _ => rfl) _).setCell (p := ⟨g, 2, none⟩) (fun _ => rfl) _).setCell (p := ⟨g, 3, none⟩) (fun _ => rfl) _
end

set_option maxRecDepth 100000 in
set_option maxHeartbeats 4000000 in
theorem joined_list (w : World) (v vi : Value) (items : RM.Dl) (d : RM.Dm) (S : Nat → Prop) (h : Its w S v items) (hd : Dat w (fun g => S g ∧ v.ownBlock ≠ some g) vi d.is) (hS : ∀ g, w.heap.size ≤ g → S g)
    (hl : items.len + d.is.len ≤ 1000000) (hk : d.k = 6 ∨ d.k = 7) :
    Calls Tryd.prog 56 #[v, .agg #[.int .i64 d.k, .int .i64 d.n, .string ⟨d.s.toArray⟩, vi]] w fun e w' => ∃ v', e = .returned (.agg #[.int .i64 d.k, .int .i64 0, .string ⟨#[]⟩, v']) ∧ Its w' S v' (items.app d.is) ∧ Turns (fun g => v.ownBlock = some g) w w' := by
  have h0 := h.lt
  obtain ⟨cs, h1, -, h2⟩ := h
  obtain ⟨es, k1, -, k3⟩ := hd
  obtain ⟨k, n, s, is⟩ := d
  simp only at hk k1 k3 hl ⊢
  have h1c := Lib.hid (DatAt.one k3)
  have T := Lib.hid (fun (w2 : World) (v' : Value) (w' : World) (ht : Turns (fun _ => False) w w2) hr hg hat (hz : w.heap.size + 1 < w2.heap.size) => Its.grew (S' := fun g => S g ∧ g ≠ w.heap.size + 1) (w := w) (w2 := w2) (w' := w') (x := v') h0 h2 k3 ht hr hg hat (fun g hg hs => ⟨hs, by omega⟩) ⟨hS _ (by omega), by omega⟩)
  clear hS h2 k3
  obtain ⟨A, c, rfl, -⟩ := own_read h1
  obtain ⟨A2, c2, rfl, -⟩ := own_read k1
  rcases hk with rfl | rfl
  · go_enter Tryd.func56, Tryd.ntmps56
    go_wp2_with fail
    go_region_held3 (fun w' => w'.cell? ⟨w.heap.size, 0, none⟩ = some (.int .i64 6) ∧ w'.cell? ⟨w.heap.size, 3, none⟩ = some (.slice A2 is.len c2)) (first | go_keep | with_reducible exact kx | with_reducible exact kz)
      (first | (refine step_append_row (v := .slice A items.len c) (x := .slice A2 is.len c2) (.agg #[.int .i64 0, .int .i64 0, .string ⟨#[]⟩, .slice none 0 0]) 56 Tryd.infoDatum rfl (by decide) rfl _ _ 23 rfl Tryd.underlying23 rfl rfl (own_turns h1 (((Turns.refl (fun _ => False) _).alloc _).alloc _).drew (fun _ _ h => h)) (own_turns k1 (((Turns.refl (fun _ => False) _).alloc _).alloc _).drew (fun _ _ h => h)) h1c.out (by omega) (by omega) (by simp) ?_
                intro v9 w9 hown9 hg9 hat9
                have T1 := Turns.appendedS hg9
                have hI := T.out _ v9 w9 (((Turns.refl (fun _ => False) _).alloc _).alloc _).drew hown9 hg9 hat9 (by simp)
                have ht9 : Turns (fun g => (Value.slice A items.len c).ownBlock = some g) w w9 := ((((Turns.refl _ _).alloc _).alloc _).drew).trans T1
                have hlt := (World.ownsRow.lt h1)
                obtain ⟨A9, c9, rfl, -⟩ := own_read hown9
                have hX9 : Lies w9 w.heap.size 29 [.int .i64 6, .int .i64 n, .string ⟨s.toArray⟩, .slice A2 is.len c2] := (((Lies.made w 29 #[.int .i64 6, .int .i64 n, .string ⟨s.toArray⟩, .slice A2 is.len c2]).alloc _).drew).turns T1 (fun h => by have := (hlt _ h).2; omega)
                have hR9 : Lies w9 (w.heap.size + 1) 29 zd4 := (lies_made2 w _ 29 zd4.toArray).drew.turns T1 (fun h => by have := (hlt _ h).2; omega)
                have kx : w9.cell? ⟨w.heap.size, 0, none⟩ = some (.int .i64 6) ∧ w9.cell? ⟨w.heap.size, 3, none⟩ = some (.slice A2 is.len c2) := ⟨hX9.cell 0, hX9.cell 3⟩
                have y0 : w9.cell? ⟨w.heap.size + 1, 0, none⟩ = some (.int .i64 0) := hR9.cell 0
                have y1 : w9.cell? ⟨w.heap.size + 1, 1, none⟩ = some (.int .i64 0) := hR9.cell 1
                have y2 : w9.cell? ⟨w.heap.size + 1, 2, none⟩ = some (.string ⟨#[]⟩) := hR9.cell 2
                have y3 : w9.cell? ⟨w.heap.size + 1, 3, none⟩ = some (.slice none 0 0) := hR9.cell 3
                have f1 := hR9.free
                have z1 := hR9.lt
                have X5 := four_far hX9 (g := w.heap.size + 1) (by omega) (.int .i64 6) (.int .i64 0) (.string ⟨#[]⟩) (.slice A9 (items.len + is.len) c9)
                have kz := And.intro (X5.cell 0) (X5.cell 3)
                unfold four at kz
                simp only [List.getElem?_cons_zero, List.getElem?_cons_succ] at kz
                clear X5 hX9 hg9 hown9 hat9 T1))
    all_goals
      go_wp2_with fail
      refine bodyPost_ret (v := .agg #[.int .i64 6, .int .i64 0, .string ⟨#[]⟩, .slice A9 (items.len + is.len) c9]) (by simp [results, Tryd.results56, go_sem, y0, y1, y2, y3]) rfl ⟨_, rfl, ?_, ?_⟩
      · exact (hI.turns (four_one w9 (w.heap.size + 1) (.int .i64 6) (.int .i64 0) (.string ⟨#[]⟩) (.slice A9 (items.len + is.len) c9)) (fun g _ hs hh => by have := hs.2; omega)).mono (fun g _ hs => hs.1)
      · exact four_turns ht9 (by omega) (.int .i64 6) (.int .i64 0) (.string ⟨#[]⟩) (.slice A9 (items.len + is.len) c9)
  · go_enter Tryd.func56, Tryd.ntmps56
    go_wp2_with fail
    go_region_held3 (fun w' => w'.cell? ⟨w.heap.size, 0, none⟩ = some (.int .i64 7) ∧ w'.cell? ⟨w.heap.size, 3, none⟩ = some (.slice A2 is.len c2)) (first | go_keep | with_reducible exact kx | with_reducible exact kz)
      (first | (refine step_append_row (v := .slice A items.len c) (x := .slice A2 is.len c2) (.agg #[.int .i64 0, .int .i64 0, .string ⟨#[]⟩, .slice none 0 0]) 56 Tryd.infoDatum rfl (by decide) rfl _ _ 23 rfl Tryd.underlying23 rfl rfl (own_turns h1 (((Turns.refl (fun _ => False) _).alloc _).alloc _).drew (fun _ _ h => h)) (own_turns k1 (((Turns.refl (fun _ => False) _).alloc _).alloc _).drew (fun _ _ h => h)) h1c.out (by omega) (by omega) (by simp) ?_
                intro v9 w9 hown9 hg9 hat9
                have T1 := Turns.appendedS hg9
                have hI := T.out _ v9 w9 (((Turns.refl (fun _ => False) _).alloc _).alloc _).drew hown9 hg9 hat9 (by simp)
                have ht9 : Turns (fun g => (Value.slice A items.len c).ownBlock = some g) w w9 := ((((Turns.refl _ _).alloc _).alloc _).drew).trans T1
                have hlt := (World.ownsRow.lt h1)
                obtain ⟨A9, c9, rfl, -⟩ := own_read hown9
                have hX9 : Lies w9 w.heap.size 29 [.int .i64 7, .int .i64 n, .string ⟨s.toArray⟩, .slice A2 is.len c2] := (((Lies.made w 29 #[.int .i64 7, .int .i64 n, .string ⟨s.toArray⟩, .slice A2 is.len c2]).alloc _).drew).turns T1 (fun h => by have := (hlt _ h).2; omega)
                have hR9 : Lies w9 (w.heap.size + 1) 29 zd4 := (lies_made2 w _ 29 zd4.toArray).drew.turns T1 (fun h => by have := (hlt _ h).2; omega)
                have kx : w9.cell? ⟨w.heap.size, 0, none⟩ = some (.int .i64 7) ∧ w9.cell? ⟨w.heap.size, 3, none⟩ = some (.slice A2 is.len c2) := ⟨hX9.cell 0, hX9.cell 3⟩
                have y0 : w9.cell? ⟨w.heap.size + 1, 0, none⟩ = some (.int .i64 0) := hR9.cell 0
                have y1 : w9.cell? ⟨w.heap.size + 1, 1, none⟩ = some (.int .i64 0) := hR9.cell 1
                have y2 : w9.cell? ⟨w.heap.size + 1, 2, none⟩ = some (.string ⟨#[]⟩) := hR9.cell 2
                have y3 : w9.cell? ⟨w.heap.size + 1, 3, none⟩ = some (.slice none 0 0) := hR9.cell 3
                have f1 := hR9.free
                have z1 := hR9.lt
                have X5 := four_far hX9 (g := w.heap.size + 1) (by omega) (.int .i64 7) (.int .i64 0) (.string ⟨#[]⟩) (.slice A9 (items.len + is.len) c9)
                have kz := And.intro (X5.cell 0) (X5.cell 3)
                unfold four at kz
                simp only [List.getElem?_cons_zero, List.getElem?_cons_succ] at kz
                clear X5 hX9 hg9 hown9 hat9 T1))
    all_goals
      go_wp2_with fail
      refine bodyPost_ret (v := .agg #[.int .i64 7, .int .i64 0, .string ⟨#[]⟩, .slice A9 (items.len + is.len) c9]) (by simp [results, Tryd.results56, go_sem, y0, y1, y2, y3]) rfl ⟨_, rfl, ?_, ?_⟩
      · exact (hI.turns (four_one w9 (w.heap.size + 1) (.int .i64 7) (.int .i64 0) (.string ⟨#[]⟩) (.slice A9 (items.len + is.len) c9)) (fun g _ hs hh => by have := hs.2; omega)).mono (fun g _ hs => hs.1)
      · exact four_turns ht9 (by omega) (.int .i64 7) (.int .i64 0) (.string ⟨#[]⟩) (.slice A9 (items.len + is.len) c9)

theorem own_lit4 (w : World) (o o' : Obj) (t : TypeId) (cs : Array Value) (hs : cs.size = 4 := by rfl) : (((w.alloc o).alloc o').alloc (.cells cs t)).ownsRow 0 t 4 (.slice (some ⟨w.heap.size + 1 + 1, 0, none⟩) 1 1) 1 cs.toList := by
  have := own_one (e := t) (sz := 4) (B := 0) ((w.alloc o).alloc o') cs hs (Nat.zero_le _)
  rwa [show ((w.alloc o).alloc o').heap.size = w.heap.size + 1 + 1 by simp] at this

set_option maxRecDepth 100000 in
set_option maxHeartbeats 4000000 in
theorem joined_more (w : World) (v vi : Value) (items : RM.Dl) (d : RM.Dm) (S : Nat → Prop) (h : Its w S v items) (hd : Dat w (fun g => S g ∧ v.ownBlock ≠ some g) vi d.is) (hS : ∀ g, w.heap.size ≤ g → S g)
    (hl : items.len + 1 ≤ 1000000) (hk : ¬ (d.k = 6 ∨ d.k = 7)) :
    Calls Tryd.prog 56 #[v, .agg #[.int .i64 d.k, .int .i64 d.n, .string ⟨d.s.toArray⟩, vi]] w fun e w' => ∃ v', e = .returned (.agg #[.int .i64 7, .int .i64 0, .string ⟨#[]⟩, v']) ∧ Its w' S v' (items.snoc d) ∧ Turns (fun g => v.ownBlock = some g) w w' := by
  have h0 := h.lt
  obtain ⟨cs, h1, -, h2⟩ := h
  have k3 := DatAt.cell1 hd
  have h1c := Lib.hid (DatAt.one k3)
  obtain ⟨Ai, ci, rfl⟩ := hd.read
  have T := Lib.hid (fun (w2 : World) (v' : Value) (w' : World) (ht : Turns (fun _ => False) w w2) hr hg hat (hz : w.heap.size + 2 < w2.heap.size) => Its.grew (e := RM.Dl.one d) (S' := fun g => S g ∧ g ≠ w.heap.size + 1) (w := w) (w2 := w2) (w' := w') (x := v') h0 h2 k3 ht hr hg hat (fun g hg hs => ⟨hs, by omega⟩) ⟨hS _ (by omega), by omega⟩)
  obtain ⟨k, n, s, is⟩ := d
  simp only at hk hl h1c ⊢
  clear hS h2 k3 hd
  have e6 : (k == 6) = false := by simp; omega
  have e7 : (k == 7) = false := by simp; omega
  clear hk
  obtain ⟨A, c, rfl, -⟩ := own_read h1
  go_enter Tryd.func56, Tryd.ntmps56
  go_wp2_with (
    at_builtin
    refine wpList_append_row (v := .slice A items.len c) (x := .slice (some ⟨w.heap.size + 1 + 1, 0, none⟩) 1 1) (.agg #[.int .i64 0, .int .i64 0, .string ⟨#[]⟩, .slice none 0 0]) 56 Tryd.infoDatum rfl (by decide) rfl _ _ 23 rfl Tryd.underlying23 rfl rfl (own_turns h1 ((((Turns.refl (fun _ => False) _).alloc _).alloc _).alloc _) (fun _ _ h => h)) (own_lit4 w _ _ 29 #[.int .i64 k, .int .i64 n, .string ⟨s.toArray⟩, .slice Ai is.len ci]) h1c.out (by omega) (by omega) (by simp) ?_
    intro v9 w9 hown9 hg9 hat9
    have T1 := Turns.appendedS hg9
    have hI := T.out _ v9 w9 ((((Turns.refl (fun _ => False) _).alloc _).alloc _).alloc _) hown9 hg9 hat9 (by simp)
    have ht9 : Turns (fun g => (Value.slice A items.len c).ownBlock = some g) w w9 := ((((Turns.refl _ _).alloc _).alloc _).alloc _).trans T1
    have hlt := (World.ownsRow.lt h1)
    obtain ⟨A9, c9, rfl, -⟩ := own_read hown9
    have hR9 : Lies w9 (w.heap.size + 1) 29 zd4 := ((lies_made2 w _ 29 zd4.toArray).alloc _).turns T1 (fun h => by have := (hlt _ h).2; omega)
    have y0 : w9.cell? ⟨w.heap.size + 1, 0, none⟩ = some (.int .i64 0) := hR9.cell 0
    have y1 : w9.cell? ⟨w.heap.size + 1, 1, none⟩ = some (.int .i64 0) := hR9.cell 1
    have y2 : w9.cell? ⟨w.heap.size + 1, 2, none⟩ = some (.string ⟨#[]⟩) := hR9.cell 2
    have y3 : w9.cell? ⟨w.heap.size + 1, 3, none⟩ = some (.slice none 0 0) := hR9.cell 3
    have f1 := hR9.free
    have z1 := hR9.lt
    clear hg9 hown9 hat9 T1)
  refine bodyPost_ret (v := .agg #[.int .i64 7, .int .i64 0, .string ⟨#[]⟩, .slice A9 (items.len + 1) c9]) (by simp [results, Tryd.results56, go_sem, y0, y1, y2, y3]) rfl ⟨_, rfl, ?_, ?_⟩
  · exact (hI.turns (four_one w9 (w.heap.size + 1) (.int .i64 7) (.int .i64 0) (.string ⟨#[]⟩) (.slice A9 (items.len + 1) c9)) (fun g _ hs hh => by have := hs.2; omega)).mono (fun g _ hs => hs.1)
  · exact four_turns ht9 (by omega) (.int .i64 7) (.int .i64 0) (.string ⟨#[]⟩) (.slice A9 (items.len + 1) c9)

/-- both -/
theorem joined_any (w : World) (v vi : Value) (items : RM.Dl) (d : RM.Dm) (S : Nat → Prop) (h : Its w S v items) (hd : Dat w (fun g => S g ∧ v.ownBlock ≠ some g) vi d.is) (hS : ∀ g, w.heap.size ≤ g → S g)
    (hl : items.len + d.is.len + 1 ≤ 1000000) :
    Calls Tryd.prog 56 #[v, .agg #[.int .i64 d.k, .int .i64 d.n, .string ⟨d.s.toArray⟩, vi]] w fun e w' => ∃ v', e = .returned (.agg #[.int .i64 (RM.joined items d).k, .int .i64 0, .string ⟨#[]⟩, v']) ∧ Its w' S v' (RM.joined items d).is ∧ Turns (fun g => v.ownBlock = some g) w w' := by
  by_cases hk : d.k = 6 ∨ d.k = 7
  · have e : RM.joined items d = ⟨d.k, 0, [], items.app d.is⟩ := by unfold RM.joined; rw [if_pos hk]
    rw [e]
    exact joined_list w v vi items d S h hd hS (by omega) hk
  · have e : RM.joined items d = ⟨7, 0, [], items.snoc d⟩ := by unfold RM.joined; rw [if_neg hk]
    rw [e]
    exact joined_more w v vi items d S h hd hS (by omega) hk
end Go.Proofs.YtfabafolbelhdaaDoor
