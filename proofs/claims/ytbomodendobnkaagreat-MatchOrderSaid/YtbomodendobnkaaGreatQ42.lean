/- What row of package read gives: a list or a vector, behind what begins it. -/
import Derived.Test.YtbomodendobnkaaGreatQ41
namespace Go.Proofs.YtbomodendobnkaaGreat
open Go.ChangeShapes Go.WideShapes Go.ChangeAt Go.RowKit

def RowC (v : Nat) : Prop := ∀ (w : World) (r : Nat) (s : ByteArray) (a : Nat) (i j : Int) (m : Nat) (kind : Int) (f : Nat), Rd w r s a i j m → Pl s a i j m → s.size < f + a →
  Calls Tryz.prog 63 #[.pointer (some ⟨r, 0, none⟩), .int .i64 kind, .int .i64 (64 - (v : Int))] w (RPost w r s (RM.row (RM.beg v) kind f .nil (stt s a i j m)))
theorem row_bad {v f : Nat} {kind : Int} {out : RM.Dl} {s : ByteArray} {a : Nat} {i j : Int} {m : Nat} (he : (LM.nx (s.data.toList.drop a) i j).t.e ≠ 0) :
    RM.row (RM.beg v) kind (f + 1) out (stt s a i j m) = .error ((LM.nx (s.data.toList.drop a) i j).t.e, (LM.nx (s.data.toList.drop a) i j).line, (LM.nx (s.data.toList.drop a) i j).col) := by
  unfold RM.row; exact nxt_bad _ he
def rowStep (v : Nat) (kind : Int) (f : Nat) (out : RM.Dl) (X : LM.Nx) (st : RM.St) : RM.Re :=
  if X.t.k = 2 then .ok (⟨kind, 0, [], out⟩, st)
  else if X.t.k = 8 ∧ kind = 6 ∧ 0 < out.len then RM.dot (RM.beg v) out st
  else match RM.beg v X st with
    | .error e => .error e
    | .ok (d, s2) => RM.row (RM.beg v) kind f (out.snoc d) s2
theorem row_good {v f : Nat} {kind : Int} {out : RM.Dl} {s : ByteArray} {a : Nat} {i j : Int} {m : Nat} (he : (LM.nx (s.data.toList.drop a) i j).t.e = 0) :
    RM.row (RM.beg v) kind (f + 1) out (stt s a i j m) = rowStep v kind f out (LM.nx (s.data.toList.drop a) i j) (stt s (a + (LM.nx (s.data.toList.drop a) i j).len) (LM.mv (seg s a (LM.nx (s.data.toList.drop a) i j).len) i j).1 (LM.mv (seg s a (LM.nx (s.data.toList.drop a) i j).len) i j).2 (m + 1)) := by
  conv => lhs; unfold RM.row
  rw [nxt_good _ he]; rfl

set_option maxRecDepth 100000 in
set_option maxHeartbeats 16000000 in
theorem row_of {v : Nat} (hv : v ≤ 64) (hB : BegC v) (hD : DotC v) : RowC v := by
  intro w r s a0 i0 j0 m0 kind f0 hR hp hf0
  have hr := hR.lt
  obtain ⟨R, hRR⟩ : ∃ R, RM.row (RM.beg v) kind f0 .nil (stt s a0 i0 j0 m0) = R := ⟨_, rfl⟩
  rw [hRR]
  have H0 := Lib.hid hRR
  clear hRR
  have hR0 : Rd (w.alloc (.cells zd4.toArray 24)) r s a0 i0 j0 m0 := Lies.alloc hR _
  have hL0 := Lies.made w 24 zd4.toArray
  have hB' := Lib.hid hB
  have hD' := Lib.hid hD
  obtain ⟨dp, hdp⟩ : ∃ dp : Int, 64 - (v : Int) = dp := ⟨_, rfl⟩
  rw [hdp]
  have hd0 : 0 ≤ dp := by omega
  have hd1 : dp ≤ 64 := by omega
  have hdb : 65 - (v : Int) = dp + 1 := by omega
  have hdb' := Lib.hid hdb
  have hdp' := Lib.hid hdp
  clear hB hD hdb hdp hv
  unfold zd4 at hR0
  go_enter Tryz.func63, Tryz.ntmps63
  go_wp2_with fail
  go_loopw [8] (fun v8 wr => ∃ (f a : Nat) (i j : Int) (m : Nat) (out : RM.Dl), out.len ≤ a ∧ Pl s a i j m ∧ s.size < f + a ∧ Rd wr r s a i j m ∧ Its wr (fun g => w.heap.size < g) v8 out ∧ Lies wr w.heap.size 24 zd4 ∧ Turns (fun k => k = r) w wr ∧ Hid (RM.row (RM.beg v) kind f out (stt s a i j m) = R)) (fun _ wr => match wr.cell? ⟨r, 1, none⟩ with | some (.int .i64 k) => s.size - k.toNat | _ => 0)
  case atStart => exact ⟨f0, a0, i0, j0, m0, .nil, Nat.zero_le _, hp, hf0, hR0, Its.nil _ _, hL0, (Turns.refl _ w).alloc _, H0⟩
  case round =>
    obtain ⟨f, a, i, j, m, out, hout, hpa, hfa, hRa, hI, hL, ht, H⟩ := hrel
    clear H0 hR0 hL0 hR hp hf0
    have haa : a ≤ s.size := hpa.2.1
    have hss : s.size ≤ 400000 := hpa.1
    obtain ⟨f, rfl⟩ : ∃ f', f = f' + 1 := ⟨f - 1, by omega⟩
    obtain ⟨A8, c8, rfl⟩ := hI.read
    have hIl := Lib.hid hI.lt
    have hzr := hL.lt
    by_cases he : (LM.nx (s.data.toList.drop a) i j).t.e = 0
    · have hG := H.out
      rw [row_good he] at hG
      have hN := Lib.hid (rnext_ok wr r s a i j m hRa hpa he)
      have hP := Lib.hid (hpa.after he)
      have hlt : (LM.nx (s.data.toList.drop a) i j).t.k ≠ 14 → a + 1 ≤ a + (LM.nx (s.data.toList.drop a) i j).len := by
        intro hk
        rcases LM.nx_end (s.data.toList.drop a) i j he with h | h
        · exact absurd h.1 hk
        · omega
      have hlt' := Lib.hid hlt
      clear H hlt
      generalize LM.nx (s.data.toList.drop a) i j = X at *
      generalize (LM.mv (seg s a X.len) i j).1 = i' at *
      generalize (LM.mv (seg s a X.len) i j).2 = j' at *
      generalize a + X.len = a' at *
      clear he hpa
      unfold rowStep at hG
      by_cases h2 : X.t.k = 2
      · rw [if_pos h2] at hG
        have hG' := Lib.hid hG
        have hP2 := hP.out (by omega)
        have e2 : (X.t.k == 2) = true := by simp [h2]
        clear hG h2
        go_wp2_with (first
          | (go_at_call 44
             refine hN.out.mono ?_
             rintro e w1 ⟨rfl, hR1, ht1⟩
             unfold tka6
             have hL1 := hL.turns ht1 (by omega)
             have hz1 := hL1.lt
             have ht2 : Turns (fun k => k = r) w w1 := ht.trans ht1
             have hI1 := hI.turns ht1 (fun g _ hs hh => by omega)
             have y0 : w1.cell? ⟨w.heap.size, 0, none⟩ = some (.int .i64 0) := hL1.cell 0
             have y1 : w1.cell? ⟨w.heap.size, 1, none⟩ = some (.int .i64 0) := hL1.cell 1
             have y2 : w1.cell? ⟨w.heap.size, 2, none⟩ = some (.string ⟨#[]⟩) := hL1.cell 2
             have y3 : w1.cell? ⟨w.heap.size, 3, none⟩ = some (.slice none 0 0) := hL1.cell 3
             have f1 := hL1.free
            ))
        have hF := (four_lies hL1 (.int .i64 kind) (.int .i64 0) (.string ⟨#[]⟩) (.slice A8 out.len c8)).alloc (.cells #[.int .i64 X.t.k, .int .i64 X.t.n, .string ⟨X.t.s.toArray⟩, .int .i64 X.line, .int .i64 X.col, .int .i64 (a' : Nat)] 103)
        have q0 := hF.cell 0
        have q1 := hF.cell 1
        have q2 := hF.cell 2
        have q3 := hF.cell 3
        have hR5 := (four_far (g := w.heap.size) hR1 (by omega) (.int .i64 kind) (.int .i64 0) (.string ⟨#[]⟩) (.slice A8 out.len c8)).alloc (.cells #[.int .i64 X.t.k, .int .i64 X.t.n, .string ⟨X.t.s.toArray⟩, .int .i64 X.line, .int .i64 X.col, .int .i64 (a' : Nat)] 103)
        have ht5 := (four_turns ht2 (Nat.le_refl _) (.int .i64 kind) (.int .i64 0) (.string ⟨#[]⟩) (.slice A8 out.len c8)).alloc (.cells #[.int .i64 X.t.k, .int .i64 X.t.n, .string ⟨X.t.s.toArray⟩, .int .i64 X.line, .int .i64 X.col, .int .i64 (a' : Nat)] 103)
        have hd5 := ((hI1.dat.turns (four_one w1 w.heap.size (.int .i64 kind) (.int .i64 0) (.string ⟨#[]⟩) (.slice A8 out.len c8)) (fun g _ hs hh => by omega)).turns ((Turns.refl (fun _ => False) _).alloc (.cells #[.int .i64 X.t.k, .int .i64 X.t.n, .string ⟨X.t.s.toArray⟩, .int .i64 X.line, .int .i64 X.col, .int .i64 (a' : Nat)] 103)) (fun _ _ _ h => h)).mono (S' := fun g => w.heap.size ≤ g) (fun g _ hs => by omega)
        unfold four at q0 q1 q2 q3 hR5 ht5 hd5
        simp only [List.getElem?_cons_zero, List.getElem?_cons_succ] at q0 q1 q2 q3
        rw [← hG'.out]
        exact bodyPost_ret (v := .tuple #[.agg #[.int .i64 kind, .int .i64 0, .string ⟨#[]⟩, .slice A8 out.len c8], .nilIface]) (by simp [results, Tryz.results63, go_sem, q0, q1, q2, q3]) rfl ⟨_, a', i', j', m + 1, rfl, rfl, hP2, hR5, hd5, ht5⟩
      · rw [if_neg h2] at hG
        have e2 : (X.t.k == 2) = false := by simp [h2]
        clear h2
        by_cases h8 : X.t.k = 8 ∧ kind = 6 ∧ 0 < out.len
        · rw [if_pos h8] at hG
          have hP2 := hP.out (by omega)
          have hlt2 := hlt'.out (by omega)
          obtain ⟨h8a, h8b, h8c⟩ := h8
          have e8 : (X.t.k == 8) = true := by simp [h8a]
          clear h8a
          subst h8b
          have hC := Lib.hid (fun w' (h : Rd w' r s a' i' j' (m + 1)) hI hS => hD'.out w' r s a' i' j' (m + 1) (.slice A8 out.len c8) out (fun g => w.heap.size < g) h hP2 hI (by omega) hS (by omega))
          rw [hdp'.out, hG] at hC
          clear hG
          unfold RPostG at hC
          cases R with
          | error x =>
            unfold RPost
            go_wp2_with (first
              | (go_at_call 44
                 refine hN.out.mono ?_
                 rintro e w1 ⟨rfl, hR1, ht1⟩
                 unfold tka6
                 have hL1 := hL.turns ht1 (by omega)
                 have hz1 := hL1.lt
                 have ht2 : Turns (fun k => k = r) w w1 := ht.trans ht1
                 have hI1 := hI.turns ht1 (fun g _ hs hh => by omega)
                 have y0 : w1.cell? ⟨w.heap.size, 0, none⟩ = some (.int .i64 0) := hL1.cell 0
                 have y1 : w1.cell? ⟨w.heap.size, 1, none⟩ = some (.int .i64 0) := hL1.cell 1
                 have y2 : w1.cell? ⟨w.heap.size, 2, none⟩ = some (.string ⟨#[]⟩) := hL1.cell 2
                 have y3 : w1.cell? ⟨w.heap.size, 3, none⟩ = some (.slice none 0 0) := hL1.cell 3
                 have f1 := hL1.free
                )
              | (go_at_call 76
                 refine (hC.out _ (Lies.alloc hR1 _) (hI1.turns ((Turns.refl (fun _ => False) w1).alloc _) (fun _ _ _ h => h)) (fun g hg => by simp at hg; omega)).mono ?_
                 rintro e w3 ⟨rfl, ht3⟩
                 have hL3 := (hL1.alloc (.cells #[.int .i64 X.t.k, .int .i64 X.t.n, .string ⟨X.t.s.toArray⟩, .int .i64 X.line, .int .i64 X.col, .int .i64 (a' : Nat)] 103)).turns ht3 (fun hh => by rcases hh with hh | hh; omega; have := (hIl.out _ hh).1; omega)
                 have hz3 := hL3.lt
                 have y0 : w3.cell? ⟨w.heap.size, 0, none⟩ = some (.int .i64 0) := hL3.cell 0
                 have y1 : w3.cell? ⟨w.heap.size, 1, none⟩ = some (.int .i64 0) := hL3.cell 1
                 have y2 : w3.cell? ⟨w.heap.size, 2, none⟩ = some (.string ⟨#[]⟩) := hL3.cell 2
                 have y3 : w3.cell? ⟨w.heap.size, 3, none⟩ = some (.slice none 0 0) := hL3.cell 3
                 have f3 := hL3.free
                 have ht4 : Turns (fun k => k = r) w w3 := (ht2.alloc _).then ht3 (fun k hk hh => by rcases hh with hh | hh; exact hh; have := (hIl.out _ hh).1; omega)
                 unfold dt0 ekv))
            exact bodyPost_ret (v := .tuple #[.agg #[.int .i64 0, .int .i64 0, .string ⟨#[]⟩, .slice none 0 0], ekv x]) (by simp [results, Tryz.results63, go_sem, y0, y1, y2, y3, ekv]) rfl ⟨rfl, four_turns ht4 (Nat.le_refl _) _ _ _ _⟩
          | ok p =>
            obtain ⟨d, t⟩ := p
            unfold RPost
            go_wp2_with (first
              | (go_at_call 44
                 refine hN.out.mono ?_
                 rintro e w1 ⟨rfl, hR1, ht1⟩
                 unfold tka6
                 have hL1 := hL.turns ht1 (by omega)
                 have hz1 := hL1.lt
                 have ht2 : Turns (fun k => k = r) w w1 := ht.trans ht1
                 have hI1 := hI.turns ht1 (fun g _ hs hh => by omega)
                 have y0 : w1.cell? ⟨w.heap.size, 0, none⟩ = some (.int .i64 0) := hL1.cell 0
                 have y1 : w1.cell? ⟨w.heap.size, 1, none⟩ = some (.int .i64 0) := hL1.cell 1
                 have y2 : w1.cell? ⟨w.heap.size, 2, none⟩ = some (.string ⟨#[]⟩) := hL1.cell 2
                 have y3 : w1.cell? ⟨w.heap.size, 3, none⟩ = some (.slice none 0 0) := hL1.cell 3
                 have f1 := hL1.free
                )
              | (go_at_call 76
                 refine (hC.out _ (Lies.alloc hR1 _) (hI1.turns ((Turns.refl (fun _ => False) w1).alloc _) (fun _ _ _ h => h)) (fun g hg => by simp at hg; omega)).mono ?_
                 rintro e w3 ⟨vd, a3, i3, j3, m3, rfl, hst, hp3, hR3, hd3, ht3⟩
                 obtain ⟨A3, c3, rfl⟩ := hd3.read
                 have hst' := Lib.hid hst
                 have hL3 := (hL1.alloc (.cells #[.int .i64 X.t.k, .int .i64 X.t.n, .string ⟨X.t.s.toArray⟩, .int .i64 X.line, .int .i64 X.col, .int .i64 (a' : Nat)] 103)).turns ht3 (fun hh => by rcases hh with hh | hh; omega; have := (hIl.out _ hh).1; omega)
                 have hz3 := hL3.lt
                 have y0 : w3.cell? ⟨w.heap.size, 0, none⟩ = some (.int .i64 0) := hL3.cell 0
                 have y1 : w3.cell? ⟨w.heap.size, 1, none⟩ = some (.int .i64 0) := hL3.cell 1
                 have y2 : w3.cell? ⟨w.heap.size, 2, none⟩ = some (.string ⟨#[]⟩) := hL3.cell 2
                 have y3 : w3.cell? ⟨w.heap.size, 3, none⟩ = some (.slice none 0 0) := hL3.cell 3
                 have f3 := hL3.free
                 have ht4 : Turns (fun k => k = r) w w3 := (ht2.alloc _).then ht3 (fun k hk hh => by rcases hh with hh | hh; exact hh; have := (hIl.out _ hh).1; omega)
                 clear hst))
            exact bodyPost_ret (v := .tuple #[.agg #[.int .i64 d.k, .int .i64 d.n, .string ⟨d.s.toArray⟩, .slice A3 d.is.len c3], .nilIface]) (by simp [results, Tryz.results63, go_sem, y0, y1, y2, y3]) rfl ⟨_, a3, i3, j3, m3, rfl, hst'.out, hp3, four_far (g := w.heap.size) hR3 (by omega) _ _ _ _, (hd3.turns (four_one w3 w.heap.size _ _ _ _) (fun g _ hs hh => by omega)).mono (fun g _ hs => by omega), four_turns ht4 (Nat.le_refl _) _ _ _ _⟩
        · rw [if_neg h8] at hG
          have hC := Lib.hid (fun w' (h : Rd w' r s a' i' j' (m + 1)) => hB'.out w' r s a' i' j' (m + 1) X a' h hP.out)
          rw [hdb'.out] at hC
          cases hbeg : RM.beg v X (stt s a' i' j' (m + 1)) with
          | error x =>
            rw [hbeg] at hG hC
            have hG' := Lib.hid hG
            clear hG hbeg
            unfold RPost at hC
            by_cases h8a : X.t.k = 8
            · have e8 : (X.t.k == 8) = true := by simp [h8a]
              by_cases h6 : kind = 6
              · subst h6
                have h0 : ¬ 0 < out.len := fun hh => h8 ⟨h8a, rfl, hh⟩
                clear h8 h8a
                go_wp2_with (first
                  | (go_at_call 44
                     refine hN.out.mono ?_
                     rintro e w1 ⟨rfl, hR1, ht1⟩
                     unfold tka6
                     have hL1 := hL.turns ht1 (by omega)
                     have hz1 := hL1.lt
                     have ht2 : Turns (fun k => k = r) w w1 := ht.trans ht1
                     have hI1 := hI.turns ht1 (fun g _ hs hh => by omega)
                     have y0 : w1.cell? ⟨w.heap.size, 0, none⟩ = some (.int .i64 0) := hL1.cell 0
                     have y1 : w1.cell? ⟨w.heap.size, 1, none⟩ = some (.int .i64 0) := hL1.cell 1
                     have y2 : w1.cell? ⟨w.heap.size, 2, none⟩ = some (.string ⟨#[]⟩) := hL1.cell 2
                     have y3 : w1.cell? ⟨w.heap.size, 3, none⟩ = some (.slice none 0 0) := hL1.cell 3
                     have f1 := hL1.free
                    )
                  | (go_at_call 45
                     refine (hC.out _ (Lies.alloc hR1 _)).mono ?_
                     rintro e w3 ⟨rfl, ht3⟩
                     have hL3 := (hL1.alloc (.cells #[.int .i64 X.t.k, .int .i64 X.t.n, .string ⟨X.t.s.toArray⟩, .int .i64 X.line, .int .i64 X.col, .int .i64 (a' : Nat)] 103)).turns ht3 (by omega)
                     have hz3 := hL3.lt
                     have y0 : w3.cell? ⟨w.heap.size, 0, none⟩ = some (.int .i64 0) := hL3.cell 0
                     have y1 : w3.cell? ⟨w.heap.size, 1, none⟩ = some (.int .i64 0) := hL3.cell 1
                     have y2 : w3.cell? ⟨w.heap.size, 2, none⟩ = some (.string ⟨#[]⟩) := hL3.cell 2
                     have y3 : w3.cell? ⟨w.heap.size, 3, none⟩ = some (.slice none 0 0) := hL3.cell 3
                     have f3 := hL3.free
                     have ht4 : Turns (fun k => k = r) w w3 := (ht2.alloc _).trans ht3
                     unfold dt0 ekv))
                have hF := (four_lies hL3 (.int .i64 0) (.int .i64 0) (.string ⟨#[]⟩) (.slice none 0 0)).alloc (.cells #[.int .i64 0, .int .i64 0, .string ⟨#[]⟩, .slice none 0 0] 24)
                have q0 := hF.cell 0
                have q1 := hF.cell 1
                have q2 := hF.cell 2
                have q3 := hF.cell 3
                have ht5 := (four_turns ht4 (Nat.le_refl _) (.int .i64 0) (.int .i64 0) (.string ⟨#[]⟩) (.slice none 0 0)).alloc (.cells #[.int .i64 0, .int .i64 0, .string ⟨#[]⟩, .slice none 0 0] 24)
                unfold four at q0 q1 q2 q3 ht5
                simp only [List.getElem?_cons_zero, List.getElem?_cons_succ] at q0 q1 q2 q3
                rw [← hG'.out]
                exact bodyPost_ret (v := .tuple #[.agg #[.int .i64 0, .int .i64 0, .string ⟨#[]⟩, .slice none 0 0], ekv x]) (by simp [results, Tryz.results63, go_sem, q0, q1, q2, q3, ekv]) rfl ⟨rfl, ht5⟩
              · have e6 : (kind == 6) = false := by simp [h6]
                clear h8 h8a h6
                go_wp2_with (first
                  | (go_at_call 44
                     refine hN.out.mono ?_
                     rintro e w1 ⟨rfl, hR1, ht1⟩
                     unfold tka6
                     have hL1 := hL.turns ht1 (by omega)
                     have hz1 := hL1.lt
                     have ht2 : Turns (fun k => k = r) w w1 := ht.trans ht1
                     have hI1 := hI.turns ht1 (fun g _ hs hh => by omega)
                     have y0 : w1.cell? ⟨w.heap.size, 0, none⟩ = some (.int .i64 0) := hL1.cell 0
                     have y1 : w1.cell? ⟨w.heap.size, 1, none⟩ = some (.int .i64 0) := hL1.cell 1
                     have y2 : w1.cell? ⟨w.heap.size, 2, none⟩ = some (.string ⟨#[]⟩) := hL1.cell 2
                     have y3 : w1.cell? ⟨w.heap.size, 3, none⟩ = some (.slice none 0 0) := hL1.cell 3
                     have f1 := hL1.free
                    )
                  | (go_at_call 45
                     refine (hC.out _ (Lies.alloc hR1 _)).mono ?_
                     rintro e w3 ⟨rfl, ht3⟩
                     have hL3 := (hL1.alloc (.cells #[.int .i64 X.t.k, .int .i64 X.t.n, .string ⟨X.t.s.toArray⟩, .int .i64 X.line, .int .i64 X.col, .int .i64 (a' : Nat)] 103)).turns ht3 (by omega)
                     have hz3 := hL3.lt
                     have y0 : w3.cell? ⟨w.heap.size, 0, none⟩ = some (.int .i64 0) := hL3.cell 0
                     have y1 : w3.cell? ⟨w.heap.size, 1, none⟩ = some (.int .i64 0) := hL3.cell 1
                     have y2 : w3.cell? ⟨w.heap.size, 2, none⟩ = some (.string ⟨#[]⟩) := hL3.cell 2
                     have y3 : w3.cell? ⟨w.heap.size, 3, none⟩ = some (.slice none 0 0) := hL3.cell 3
                     have f3 := hL3.free
                     have ht4 : Turns (fun k => k = r) w w3 := (ht2.alloc _).trans ht3
                     unfold dt0 ekv))
                have hF := (four_lies hL3 (.int .i64 0) (.int .i64 0) (.string ⟨#[]⟩) (.slice none 0 0)).alloc (.cells #[.int .i64 0, .int .i64 0, .string ⟨#[]⟩, .slice none 0 0] 24)
                have q0 := hF.cell 0
                have q1 := hF.cell 1
                have q2 := hF.cell 2
                have q3 := hF.cell 3
                have ht5 := (four_turns ht4 (Nat.le_refl _) (.int .i64 0) (.int .i64 0) (.string ⟨#[]⟩) (.slice none 0 0)).alloc (.cells #[.int .i64 0, .int .i64 0, .string ⟨#[]⟩, .slice none 0 0] 24)
                unfold four at q0 q1 q2 q3 ht5
                simp only [List.getElem?_cons_zero, List.getElem?_cons_succ] at q0 q1 q2 q3
                rw [← hG'.out]
                exact bodyPost_ret (v := .tuple #[.agg #[.int .i64 0, .int .i64 0, .string ⟨#[]⟩, .slice none 0 0], ekv x]) (by simp [results, Tryz.results63, go_sem, q0, q1, q2, q3, ekv]) rfl ⟨rfl, ht5⟩
            · have e8 : (X.t.k == 8) = false := by simp [h8a]
              clear h8 h8a
              go_wp2_with (first
                | (go_at_call 44
                   refine hN.out.mono ?_
                   rintro e w1 ⟨rfl, hR1, ht1⟩
                   unfold tka6
                   have hL1 := hL.turns ht1 (by omega)
                   have hz1 := hL1.lt
                   have ht2 : Turns (fun k => k = r) w w1 := ht.trans ht1
                   have hI1 := hI.turns ht1 (fun g _ hs hh => by omega)
                   have y0 : w1.cell? ⟨w.heap.size, 0, none⟩ = some (.int .i64 0) := hL1.cell 0
                   have y1 : w1.cell? ⟨w.heap.size, 1, none⟩ = some (.int .i64 0) := hL1.cell 1
                   have y2 : w1.cell? ⟨w.heap.size, 2, none⟩ = some (.string ⟨#[]⟩) := hL1.cell 2
                   have y3 : w1.cell? ⟨w.heap.size, 3, none⟩ = some (.slice none 0 0) := hL1.cell 3
                   have f1 := hL1.free
                  )
                | (go_at_call 45
                   refine (hC.out _ (Lies.alloc hR1 _)).mono ?_
                   rintro e w3 ⟨rfl, ht3⟩
                   have hL3 := (hL1.alloc (.cells #[.int .i64 X.t.k, .int .i64 X.t.n, .string ⟨X.t.s.toArray⟩, .int .i64 X.line, .int .i64 X.col, .int .i64 (a' : Nat)] 103)).turns ht3 (by omega)
                   have hz3 := hL3.lt
                   have y0 : w3.cell? ⟨w.heap.size, 0, none⟩ = some (.int .i64 0) := hL3.cell 0
                   have y1 : w3.cell? ⟨w.heap.size, 1, none⟩ = some (.int .i64 0) := hL3.cell 1
                   have y2 : w3.cell? ⟨w.heap.size, 2, none⟩ = some (.string ⟨#[]⟩) := hL3.cell 2
                   have y3 : w3.cell? ⟨w.heap.size, 3, none⟩ = some (.slice none 0 0) := hL3.cell 3
                   have f3 := hL3.free
                   have ht4 : Turns (fun k => k = r) w w3 := (ht2.alloc _).trans ht3
                   unfold dt0 ekv))
              have hF := (four_lies hL3 (.int .i64 0) (.int .i64 0) (.string ⟨#[]⟩) (.slice none 0 0)).alloc (.cells #[.int .i64 0, .int .i64 0, .string ⟨#[]⟩, .slice none 0 0] 24)
              have q0 := hF.cell 0
              have q1 := hF.cell 1
              have q2 := hF.cell 2
              have q3 := hF.cell 3
              have ht5 := (four_turns ht4 (Nat.le_refl _) (.int .i64 0) (.int .i64 0) (.string ⟨#[]⟩) (.slice none 0 0)).alloc (.cells #[.int .i64 0, .int .i64 0, .string ⟨#[]⟩, .slice none 0 0] 24)
              unfold four at q0 q1 q2 q3 ht5
              simp only [List.getElem?_cons_zero, List.getElem?_cons_succ] at q0 q1 q2 q3
              rw [← hG'.out]
              exact bodyPost_ret (v := .tuple #[.agg #[.int .i64 0, .int .i64 0, .string ⟨#[]⟩, .slice none 0 0], ekv x]) (by simp [results, Tryz.results63, go_sem, q0, q1, q2, q3, ekv]) rfl ⟨rfl, ht5⟩
          | ok p =>
            obtain ⟨d, t⟩ := p
            have hk14 := RM.beg_end _ hbeg
            have hlt2 := hlt'.out hk14
            have hpl : a' ≤ s.size := (hP.out hk14).2.1
            have hble := RM.beg_le v _ _ _ _ hbeg
            rw [hbeg] at hG hC
            have hG' := Lib.hid hG
            have hblh := Lib.hid hble
            clear hG hbeg hk14 hble
            unfold RPost at hC
            by_cases h8a : X.t.k = 8
            · have e8 : (X.t.k == 8) = true := by simp [h8a]
              by_cases h6 : kind = 6
              · subst h6
                have h0 : ¬ 0 < out.len := fun hh => h8 ⟨h8a, rfl, hh⟩
                clear h8 h8a
                go_wp2_with (first
                  | (go_at_call 44
                     refine hN.out.mono ?_
                     rintro e w1 ⟨rfl, hR1, ht1⟩
                     unfold tka6
                     have hL1 := hL.turns ht1 (by omega)
                     have hz1 := hL1.lt
                     have ht2 : Turns (fun k => k = r) w w1 := ht.trans ht1
                     have hI1 := hI.turns ht1 (fun g _ hs hh => by omega)
                     have y0 : w1.cell? ⟨w.heap.size, 0, none⟩ = some (.int .i64 0) := hL1.cell 0
                     have y1 : w1.cell? ⟨w.heap.size, 1, none⟩ = some (.int .i64 0) := hL1.cell 1
                     have y2 : w1.cell? ⟨w.heap.size, 2, none⟩ = some (.string ⟨#[]⟩) := hL1.cell 2
                     have y3 : w1.cell? ⟨w.heap.size, 3, none⟩ = some (.slice none 0 0) := hL1.cell 3
                     have f1 := hL1.free
                    )
                  | (go_at_call 45
                     refine (hC.out _ (Lies.alloc hR1 _)).mono ?_
                     rintro e w3 ⟨vd, a3, i3, j3, m3, rfl, hst, hp3, hR3, hd3, ht3⟩
                     obtain ⟨A3, c3, rfl⟩ := hd3.read
                     have hG3 := hG'.out
                     rw [hst] at hG3
                     have hG3' := Lib.hid hG3
                     have hlen3 : a' ≤ a3 := by
                       have h := hblh.out
                       rw [hst] at h
                       have h3 := hp3.2.1
                       have h4 : (s.data.toList.drop a3).length ≤ (s.data.toList.drop a').length := h
                       rw [List.length_drop, List.length_drop, size_len] at h4
                       omega
                     have hL3 := (hL1.alloc (.cells #[.int .i64 X.t.k, .int .i64 X.t.n, .string ⟨X.t.s.toArray⟩, .int .i64 X.line, .int .i64 X.col, .int .i64 (a' : Nat)] 103)).turns ht3 (by omega)
                     have hz3 := hL3.lt
                     have ht4 : Turns (fun k => k = r) w w3 := (ht2.alloc _).trans ht3
                     have hIl1 := Lib.hid hI1.lt
                     have hI3 := (hI1.turns ((Turns.refl (fun _ => False) w1).alloc (.cells #[.int .i64 X.t.k, .int .i64 X.t.n, .string ⟨X.t.s.toArray⟩, .int .i64 X.line, .int .i64 X.col, .int .i64 (a' : Nat)] 103)) (fun _ _ _ h => h)).turns ht3 (fun g _ hs hh => by omega)
                     have hone : DatAt w3 (fun g => w.heap.size < g ∧ (Value.slice A8 out.len c8).ownBlock ≠ some g) (.one d) [.int .i64 d.k, .int .i64 d.n, .string ⟨d.s.toArray⟩, .slice A3 d.is.len c3] :=
                       DatAt.cell1 (hd3.mono (fun g _ hs => by simp at hs; exact ⟨by omega, fun hh => by have := (hIl1.out _ hh).2; omega⟩))
                     clear hst hG3)
                  | (at_builtin
                     have hIl3 := hI3.lt
                     obtain ⟨cs, h1, -, h3⟩ := hI3
                     refine wpList_append_row (v := .slice A8 out.len c8) (x := .slice (some ⟨w3.heap.size + 1, 0, none⟩) 1 1) (.agg #[.int .i64 0, .int .i64 0, .string ⟨#[]⟩, .slice none 0 0]) 56 Tryz.infoDatum rfl (by decide) rfl _ _ 22 rfl Tryz.underlying22 rfl rfl (own_turns h1 (((Turns.refl (fun _ => False) _).alloc _).alloc _) (fun _ _ h => h)) (own_lit4b w3 _ 24 #[.int .i64 d.k, .int .i64 d.n, .string ⟨d.s.toArray⟩, .slice A3 d.is.len c3]) (DatAt.one hone) (by omega) (by omega) (by simp) ?_
                     intro v9 w9 hown9 hg9 hat9
                     have T1 := Turns.appendedS hg9
                     have hI9 : Its w9 (fun g => w.heap.size < g) v9 (out.snoc d) := Its.grew (e := .one d) hIl3 h3 hone (((Turns.refl (fun _ => False) _).alloc _).alloc _) hown9 hg9 hat9 (fun g _ hs => hs) (by simp; omega)
                     have hL9 := ((hL3.alloc _).alloc _).turns T1 (fun hh => by have := (hIl3 _ hh).1; omega)
                     have hR9 := (Lies.alloc (Lies.alloc hR3 _) _).turns T1 (fun hh => by have := (hIl3 _ hh).1; omega)
                     have ht9 : Turns (fun k => k = r) w w9 := ((ht4.alloc _).alloc _).then T1 (fun k hk hh => by have := (hIl3 _ hh).1; omega)
                     have hz9 := hL9.lt
                     clear hg9 hat9 hown9 T1))
                go_roundw
                case rel => exact ⟨f, a3, i3, j3, m3, out.snoc d, by rw [RM.Dl.len_snoc]; omega, hp3, by omega, hR9, hI9, hL9, ht9, hG3'⟩
                case measure =>
                  have q1 : w9.cell? ⟨r, 1, none⟩ = some (.int .i64 (a3 : Nat)) := Lies.cell hR9 1
                  have q2 : wr.cell? ⟨r, 1, none⟩ = some (.int .i64 (a : Nat)) := Lies.cell hRa 1
                  have := hp3.2.1
                  rw [q1, q2]
                  simp; omega
              · have e6 : (kind == 6) = false := by simp [h6]
                clear h8 h8a h6
                go_wp2_with (first
                  | (go_at_call 44
                     refine hN.out.mono ?_
                     rintro e w1 ⟨rfl, hR1, ht1⟩
                     unfold tka6
                     have hL1 := hL.turns ht1 (by omega)
                     have hz1 := hL1.lt
                     have ht2 : Turns (fun k => k = r) w w1 := ht.trans ht1
                     have hI1 := hI.turns ht1 (fun g _ hs hh => by omega)
                     have y0 : w1.cell? ⟨w.heap.size, 0, none⟩ = some (.int .i64 0) := hL1.cell 0
                     have y1 : w1.cell? ⟨w.heap.size, 1, none⟩ = some (.int .i64 0) := hL1.cell 1
                     have y2 : w1.cell? ⟨w.heap.size, 2, none⟩ = some (.string ⟨#[]⟩) := hL1.cell 2
                     have y3 : w1.cell? ⟨w.heap.size, 3, none⟩ = some (.slice none 0 0) := hL1.cell 3
                     have f1 := hL1.free
                    )
                  | (go_at_call 45
                     refine (hC.out _ (Lies.alloc hR1 _)).mono ?_
                     rintro e w3 ⟨vd, a3, i3, j3, m3, rfl, hst, hp3, hR3, hd3, ht3⟩
                     obtain ⟨A3, c3, rfl⟩ := hd3.read
                     have hG3 := hG'.out
                     rw [hst] at hG3
                     have hG3' := Lib.hid hG3
                     have hlen3 : a' ≤ a3 := by
                       have h := hblh.out
                       rw [hst] at h
                       have h3 := hp3.2.1
                       have h4 : (s.data.toList.drop a3).length ≤ (s.data.toList.drop a').length := h
                       rw [List.length_drop, List.length_drop, size_len] at h4
                       omega
                     have hL3 := (hL1.alloc (.cells #[.int .i64 X.t.k, .int .i64 X.t.n, .string ⟨X.t.s.toArray⟩, .int .i64 X.line, .int .i64 X.col, .int .i64 (a' : Nat)] 103)).turns ht3 (by omega)
                     have hz3 := hL3.lt
                     have ht4 : Turns (fun k => k = r) w w3 := (ht2.alloc _).trans ht3
                     have hIl1 := Lib.hid hI1.lt
                     have hI3 := (hI1.turns ((Turns.refl (fun _ => False) w1).alloc (.cells #[.int .i64 X.t.k, .int .i64 X.t.n, .string ⟨X.t.s.toArray⟩, .int .i64 X.line, .int .i64 X.col, .int .i64 (a' : Nat)] 103)) (fun _ _ _ h => h)).turns ht3 (fun g _ hs hh => by omega)
                     have hone : DatAt w3 (fun g => w.heap.size < g ∧ (Value.slice A8 out.len c8).ownBlock ≠ some g) (.one d) [.int .i64 d.k, .int .i64 d.n, .string ⟨d.s.toArray⟩, .slice A3 d.is.len c3] :=
                       DatAt.cell1 (hd3.mono (fun g _ hs => by simp at hs; exact ⟨by omega, fun hh => by have := (hIl1.out _ hh).2; omega⟩))
                     clear hst hG3)
                  | (at_builtin
                     have hIl3 := hI3.lt
                     obtain ⟨cs, h1, -, h3⟩ := hI3
                     refine wpList_append_row (v := .slice A8 out.len c8) (x := .slice (some ⟨w3.heap.size + 1, 0, none⟩) 1 1) (.agg #[.int .i64 0, .int .i64 0, .string ⟨#[]⟩, .slice none 0 0]) 56 Tryz.infoDatum rfl (by decide) rfl _ _ 22 rfl Tryz.underlying22 rfl rfl (own_turns h1 (((Turns.refl (fun _ => False) _).alloc _).alloc _) (fun _ _ h => h)) (own_lit4b w3 _ 24 #[.int .i64 d.k, .int .i64 d.n, .string ⟨d.s.toArray⟩, .slice A3 d.is.len c3]) (DatAt.one hone) (by omega) (by omega) (by simp) ?_
                     intro v9 w9 hown9 hg9 hat9
                     have T1 := Turns.appendedS hg9
                     have hI9 : Its w9 (fun g => w.heap.size < g) v9 (out.snoc d) := Its.grew (e := .one d) hIl3 h3 hone (((Turns.refl (fun _ => False) _).alloc _).alloc _) hown9 hg9 hat9 (fun g _ hs => hs) (by simp; omega)
                     have hL9 := ((hL3.alloc _).alloc _).turns T1 (fun hh => by have := (hIl3 _ hh).1; omega)
                     have hR9 := (Lies.alloc (Lies.alloc hR3 _) _).turns T1 (fun hh => by have := (hIl3 _ hh).1; omega)
                     have ht9 : Turns (fun k => k = r) w w9 := ((ht4.alloc _).alloc _).then T1 (fun k hk hh => by have := (hIl3 _ hh).1; omega)
                     have hz9 := hL9.lt
                     clear hg9 hat9 hown9 T1))
                go_roundw
                case rel => exact ⟨f, a3, i3, j3, m3, out.snoc d, by rw [RM.Dl.len_snoc]; omega, hp3, by omega, hR9, hI9, hL9, ht9, hG3'⟩
                case measure =>
                  have q1 : w9.cell? ⟨r, 1, none⟩ = some (.int .i64 (a3 : Nat)) := Lies.cell hR9 1
                  have q2 : wr.cell? ⟨r, 1, none⟩ = some (.int .i64 (a : Nat)) := Lies.cell hRa 1
                  have := hp3.2.1
                  rw [q1, q2]
                  simp; omega
            · have e8 : (X.t.k == 8) = false := by simp [h8a]
              clear h8 h8a
              go_wp2_with (first
                | (go_at_call 44
                   refine hN.out.mono ?_
                   rintro e w1 ⟨rfl, hR1, ht1⟩
                   unfold tka6
                   have hL1 := hL.turns ht1 (by omega)
                   have hz1 := hL1.lt
                   have ht2 : Turns (fun k => k = r) w w1 := ht.trans ht1
                   have hI1 := hI.turns ht1 (fun g _ hs hh => by omega)
                   have y0 : w1.cell? ⟨w.heap.size, 0, none⟩ = some (.int .i64 0) := hL1.cell 0
                   have y1 : w1.cell? ⟨w.heap.size, 1, none⟩ = some (.int .i64 0) := hL1.cell 1
                   have y2 : w1.cell? ⟨w.heap.size, 2, none⟩ = some (.string ⟨#[]⟩) := hL1.cell 2
                   have y3 : w1.cell? ⟨w.heap.size, 3, none⟩ = some (.slice none 0 0) := hL1.cell 3
                   have f1 := hL1.free
                  )
                | (go_at_call 45
                   refine (hC.out _ (Lies.alloc hR1 _)).mono ?_
                   rintro e w3 ⟨vd, a3, i3, j3, m3, rfl, hst, hp3, hR3, hd3, ht3⟩
                   obtain ⟨A3, c3, rfl⟩ := hd3.read
                   have hG3 := hG'.out
                   rw [hst] at hG3
                   have hG3' := Lib.hid hG3
                   have hlen3 : a' ≤ a3 := by
                     have h := hblh.out
                     rw [hst] at h
                     have h3 := hp3.2.1
                     have h4 : (s.data.toList.drop a3).length ≤ (s.data.toList.drop a').length := h
                     rw [List.length_drop, List.length_drop, size_len] at h4
                     omega
                   have hL3 := (hL1.alloc (.cells #[.int .i64 X.t.k, .int .i64 X.t.n, .string ⟨X.t.s.toArray⟩, .int .i64 X.line, .int .i64 X.col, .int .i64 (a' : Nat)] 103)).turns ht3 (by omega)
                   have hz3 := hL3.lt
                   have ht4 : Turns (fun k => k = r) w w3 := (ht2.alloc _).trans ht3
                   have hIl1 := Lib.hid hI1.lt
                   have hI3 := (hI1.turns ((Turns.refl (fun _ => False) w1).alloc (.cells #[.int .i64 X.t.k, .int .i64 X.t.n, .string ⟨X.t.s.toArray⟩, .int .i64 X.line, .int .i64 X.col, .int .i64 (a' : Nat)] 103)) (fun _ _ _ h => h)).turns ht3 (fun g _ hs hh => by omega)
                   have hone : DatAt w3 (fun g => w.heap.size < g ∧ (Value.slice A8 out.len c8).ownBlock ≠ some g) (.one d) [.int .i64 d.k, .int .i64 d.n, .string ⟨d.s.toArray⟩, .slice A3 d.is.len c3] :=
                     DatAt.cell1 (hd3.mono (fun g _ hs => by simp at hs; exact ⟨by omega, fun hh => by have := (hIl1.out _ hh).2; omega⟩))
                   clear hst hG3)
                | (at_builtin
                   have hIl3 := hI3.lt
                   obtain ⟨cs, h1, -, h3⟩ := hI3
                   refine wpList_append_row (v := .slice A8 out.len c8) (x := .slice (some ⟨w3.heap.size + 1, 0, none⟩) 1 1) (.agg #[.int .i64 0, .int .i64 0, .string ⟨#[]⟩, .slice none 0 0]) 56 Tryz.infoDatum rfl (by decide) rfl _ _ 22 rfl Tryz.underlying22 rfl rfl (own_turns h1 (((Turns.refl (fun _ => False) _).alloc _).alloc _) (fun _ _ h => h)) (own_lit4b w3 _ 24 #[.int .i64 d.k, .int .i64 d.n, .string ⟨d.s.toArray⟩, .slice A3 d.is.len c3]) (DatAt.one hone) (by omega) (by omega) (by simp) ?_
                   intro v9 w9 hown9 hg9 hat9
                   have T1 := Turns.appendedS hg9
                   have hI9 : Its w9 (fun g => w.heap.size < g) v9 (out.snoc d) := Its.grew (e := .one d) hIl3 h3 hone (((Turns.refl (fun _ => False) _).alloc _).alloc _) hown9 hg9 hat9 (fun g _ hs => hs) (by simp; omega)
                   have hL9 := ((hL3.alloc _).alloc _).turns T1 (fun hh => by have := (hIl3 _ hh).1; omega)
                   have hR9 := (Lies.alloc (Lies.alloc hR3 _) _).turns T1 (fun hh => by have := (hIl3 _ hh).1; omega)
                   have ht9 : Turns (fun k => k = r) w w9 := ((ht4.alloc _).alloc _).then T1 (fun k hk hh => by have := (hIl3 _ hh).1; omega)
                   have hz9 := hL9.lt
                   clear hg9 hat9 hown9 T1))
              go_roundw
              case rel => exact ⟨f, a3, i3, j3, m3, out.snoc d, by rw [RM.Dl.len_snoc]; omega, hp3, by omega, hR9, hI9, hL9, ht9, hG3'⟩
              case measure =>
                have q1 : w9.cell? ⟨r, 1, none⟩ = some (.int .i64 (a3 : Nat)) := Lies.cell hR9 1
                have q2 : wr.cell? ⟨r, 1, none⟩ = some (.int .i64 (a : Nat)) := Lies.cell hRa 1
                have := hp3.2.1
                rw [q1, q2]
                simp; omega
    · have hG := H.out
      rw [row_bad he] at hG
      have hN := Lib.hid (rnext_bad wr r s a i j m hRa hpa he)
      have hG' := Lib.hid hG
      clear H hG hpa he
      generalize LM.nx (s.data.toList.drop a) i j = X at *
      go_wp2_with (first
        | (go_at_call 44
           refine hN.out.mono ?_
           rintro e w1 ⟨rfl, hb1⟩
           unfold tk0 erv
           have hL1 := hL.below hb1 hL.lt
           have hz1 := hL1.lt
           have ht2 : Turns (fun k => k = r) w w1 := ht.trans (Turns.of_below hb1 _)
           have y0 : w1.cell? ⟨w.heap.size, 0, none⟩ = some (.int .i64 0) := hL1.cell 0
           have y1 : w1.cell? ⟨w.heap.size, 1, none⟩ = some (.int .i64 0) := hL1.cell 1
           have y2 : w1.cell? ⟨w.heap.size, 2, none⟩ = some (.string ⟨#[]⟩) := hL1.cell 2
           have y3 : w1.cell? ⟨w.heap.size, 3, none⟩ = some (.slice none 0 0) := hL1.cell 3
           have f1 := hL1.free
          ))
      have hF := (four_lies hL1 (.int .i64 0) (.int .i64 0) (.string ⟨#[]⟩) (.slice none 0 0)).alloc (.cells #[.int .i64 0, .int .i64 0, .string ⟨#[]⟩, .int .i64 0, .int .i64 0, .int .i64 0] 103)
      have q0 := hF.cell 0
      have q1 := hF.cell 1
      have q2 := hF.cell 2
      have q3 := hF.cell 3
      have ht5 := (four_turns ht2 (Nat.le_refl _) (.int .i64 0) (.int .i64 0) (.string ⟨#[]⟩) (.slice none 0 0)).alloc (.cells #[.int .i64 0, .int .i64 0, .string ⟨#[]⟩, .int .i64 0, .int .i64 0, .int .i64 0] 103)
      unfold four at q0 q1 q2 q3 ht5
      simp only [List.getElem?_cons_zero, List.getElem?_cons_succ] at q0 q1 q2 q3
      rw [← hG'.out]
      exact bodyPost_ret (v := .tuple #[.agg #[.int .i64 0, .int .i64 0, .string ⟨#[]⟩, .slice none 0 0], ekv (X.t.e, X.line, X.col)]) (by simp [results, Tryz.results63, go_sem, q0, q1, q2, q3, ekv]) rfl ⟨rfl, ht5⟩
end Go.Proofs.YtbomodendobnkaaGreat
