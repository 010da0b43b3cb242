/- What dotted of package read gives: the list behind a full stop. -/
import Derived.Test.YtbomodendobnkaaGreatQ40
namespace Go.Proofs.YtbomodendobnkaaGreat
open Go.ChangeShapes Go.WideShapes Go.ChangeAt Go.RowKit

/-- as RPost, but the rows may lie in blocks of S, and those of X may have turned -/
def RPostG (S X : Nat → Prop) (w : World) (r : Nat) (s : ByteArray) : RM.Re → Ending → World → Prop
  | .error x, e, w' => e = .returned (.tuple #[dt0, ekv x]) ∧ Turns X w w'
  | .ok (d, t), e, w' => ∃ v a i j m, e = .returned (.tuple #[.agg #[.int .i64 d.k, .int .i64 d.n, .string ⟨d.s.toArray⟩, v], .nilIface]) ∧ t = stt s a i j m ∧ Pl s a i j m ∧ Rd w' r s a i j m ∧ Dat w' S v d.is ∧ Turns X w w'
/-- behind the datum that stands behind a full stop -/
def dotEnd (items : RM.Dl) (d : RM.Dm) (Y : LM.Nx) (t : RM.St) : RM.Re := if Y.t.k = 14 then .error (5, Y.line, Y.col) else if Y.t.k ≠ 2 then .error (6, Y.line, Y.col) else .ok (RM.joined items d, t)
def mapD (items : RM.Dl) : RM.Re → RM.Re
  | .error x => .error x
  | .ok (d, t) => RM.nxt t (dotEnd items d)
theorem dot_map (B : LM.Nx → RM.St → RM.Re) (items : RM.Dl) (s : RM.St) : RM.dot B items s = mapD items (RM.nxt s B) := by
  unfold RM.dot
  conv => rhs; unfold RM.nxt
  unfold RM.nxt
  by_cases h : s.nx.t.e ≠ 0
  · rw [if_pos h, if_pos h]; rfl
  · rw [if_neg h, if_neg h]
    dsimp only
    cases B s.nx s.after with
    | error x => rfl
    | ok p => rfl
/-- what dotted owes -/
def DotC (v : Nat) : Prop := ∀ (w : World) (r : Nat) (s : ByteArray) (a : Nat) (i j : Int) (m : Nat) (vi : Value) (items : RM.Dl) (S : Nat → Prop), Rd w r s a i j m → Pl s a i j m → Its w S vi items → items.len ≤ a → (∀ g, w.heap.size ≤ g → S g) → ¬ S r →
  Calls Tryz.prog 76 #[.pointer (some ⟨r, 0, none⟩), vi, .int .i64 (64 - (v : Int))] w (RPostG S (fun k => k = r ∨ vi.ownBlock = some k) w r s (RM.dot (RM.beg v) items (stt s a i j m)))
theorem nxt_len {v : Nat} {s : ByteArray} {a : Nat} {i j : Int} {m : Nat} {d : RM.Dm} {t : RM.St} (h : RM.nxt (stt s a i j m) (RM.beg v) = .ok (d, t)) : d.is.len ≤ s.size + 2 := by
  obtain ⟨-, h⟩ := RM.nxt_ok h
  have h1 := RM.beg_len v _ _ _ _ h
  have h2 := RM.after_le (stt s a i j m)
  have h3 : (stt s a i j m).l.length ≤ s.size := by
    show (s.data.toList.drop a).length ≤ _
    rw [List.length_drop, size_len]; omega
  omega

theorem joined_n (items : RM.Dl) (d : RM.Dm) : (RM.joined items d).n = 0 := by unfold RM.joined; split <;> rfl
theorem joined_s (items : RM.Dl) (d : RM.Dm) : (RM.joined items d).s = [] := by unfold RM.joined; split <;> rfl

set_option maxRecDepth 100000 in
set_option maxHeartbeats 8000000 in
theorem dotted_of {v : Nat} (hv : v ≤ 64) (hD : DatC v) : DotC v := by
  intro w r s a i j m vi items S hR hp hI hia hS hSr
  have hr := hR.lt
  have hss : s.size ≤ 400000 := hp.1
  have haa : a ≤ s.size := hp.2.1
  rw [dot_map]
  have hC := Lib.hid (fun w' (h : Rd w' r s a i j m) => hD w' r s a i j m h hp)
  clear hD hp
  obtain ⟨Ai, ci, hvi⟩ := hI.read
  subst hvi
  have hIl := Lib.hid hI.lt
  have hR0 : Rd (w.alloc (.cells zd4.toArray 24)) r s a i j m := Lies.alloc hR _
  unfold zd4 at hR0
  have hln := @nxt_len v s a i j m
  generalize RM.nxt (stt s a i j m) (RM.beg v) = R at *
  obtain ⟨dp, hdp⟩ : ∃ dp : Int, 64 - (v : Int) = dp := ⟨_, rfl⟩
  rw [hdp]
  have hd0 : 0 ≤ dp := by omega
  have hd1 : dp ≤ 64 := by omega
  rw [show 65 - (v : Int) = dp + 1 by omega] at hC
  clear hdp hv
  cases R with
  | error x =>
    unfold mapD
    unfold RPost at hC
    unfold RPostG
    go_enter Tryz.func76, Tryz.ntmps76
    go_wp2_with (
      go_at_call 77
      refine (hC.out _ hR0).mono ?_
      rintro e w3 ⟨rfl, ht3⟩
      have hL3 : Lies w3 w.heap.size 24 zd4 := (Lies.made w 24 zd4.toArray).turns ht3 (by omega)
      have hz3 := hL3.lt
      have y0 : w3.cell? ⟨w.heap.size, 0, none⟩ = some (.int .i64 0) := hL3.cell 0
      have y1 : w3.cell? ⟨w.heap.size, 1, none⟩ = some (.int .i64 0) := hL3.cell 1
      have y2 : w3.cell? ⟨w.heap.size, 2, none⟩ = some (.string ⟨#[]⟩) := hL3.cell 2
      have y3 : w3.cell? ⟨w.heap.size, 3, none⟩ = some (.slice none 0 0) := hL3.cell 3
      have f3 := hL3.free
      have ht4 : Turns (fun k => k = r) w w3 := ((Turns.refl _ w).alloc _).trans ht3
      unfold dt0 ekv)
    have hF := (four_lies hL3 (.int .i64 0) (.int .i64 0) (.string ⟨#[]⟩) (.slice none 0 0)).alloc (.cells #[.int .i64 0, .int .i64 0, .string ⟨#[]⟩, .slice none 0 0] 24)
    have q0 := hF.cell 0
    have q1 := hF.cell 1
    have q2 := hF.cell 2
    have q3 := hF.cell 3
    have ht5 := (four_turns ht4 (g := w.heap.size) (by omega) (.int .i64 0) (.int .i64 0) (.string ⟨#[]⟩) (.slice none 0 0)).alloc (.cells #[.int .i64 0, .int .i64 0, .string ⟨#[]⟩, .slice none 0 0] 24)
    unfold four at q0 q1 q2 q3 ht5
    simp only [List.getElem?_cons_zero, List.getElem?_cons_succ] at q0 q1 q2 q3
    exact bodyPost_ret (v := .tuple #[.agg #[.int .i64 0, .int .i64 0, .string ⟨#[]⟩, .slice none 0 0], ekv x]) (by simp [results, Tryz.results76, go_sem, q0, q1, q2, q3, ekv]) rfl ⟨rfl, ht5.mono (fun _ _ h => .inl h)⟩
  | ok p =>
    obtain ⟨d, t⟩ := p
    have hdl := hln rfl
    rw [show mapD items (.ok (d, t)) = RM.nxt t (dotEnd items d) from rfl]
    unfold RPost at hC
    obtain ⟨Y, hY⟩ : ∃ Y, t.nx = Y := ⟨_, rfl⟩
    clear hln
    by_cases he : Y.t.e = 0
    · have hG : RM.nxt t (dotEnd items d) = dotEnd items d Y t.after := by rw [RM.nxt_go _ (by rw [hY]; exact he), hY]
      rw [hG]
      clear hG
      have hYh := Lib.hid hY
      have heh := Lib.hid he
      clear hY he
      by_cases h14 : Y.t.k = 14
      · have hE : dotEnd items d Y t.after = .error (5, Y.line, Y.col) := by unfold dotEnd; rw [if_pos h14]
        rw [hE]
        clear hE
        have e14 : (Y.t.k == 14) = true := by simp [h14]
        have d14 : decide (Y.t.k = 14) = true := by simp [h14]
        clear h14
        unfold RPostG
        go_enter Tryz.func76, Tryz.ntmps76
        go_wp2_with (first
          | (go_at_call 77
             refine (hC.out _ hR0).mono ?_
             rintro e w3 ⟨vd, a3, i3, j3, m3, rfl, hst, hp3, hR3, hd3, ht3⟩
             obtain ⟨A3, c3, rfl⟩ := hd3.read
             have hY3 : LM.nx (s.data.toList.drop a3) i3 j3 = Y := by have h := hYh.out; rw [hst] at h; exact h
             have hst' := Lib.hid hst
             have hL3 : Lies w3 w.heap.size 24 zd4 := (Lies.made w 24 zd4.toArray).turns ht3 (by omega)
             have hz3 := hL3.lt
             have ht4 : Turns (fun k => k = r) w w3 := ((Turns.refl _ w).alloc _).trans ht3
             have hD3 := Lies.made w3 24 #[.int .i64 d.k, .int .i64 d.n, .string ⟨d.s.toArray⟩, .slice A3 d.is.len c3]
             have hR4 : Rd (w3.alloc (.cells #[.int .i64 d.k, .int .i64 d.n, .string ⟨d.s.toArray⟩, .slice A3 d.is.len c3] 24)) r s a3 i3 j3 m3 := Lies.alloc hR3 _
             have hL4 := hL3.alloc (.cells #[.int .i64 d.k, .int .i64 d.n, .string ⟨d.s.toArray⟩, .slice A3 d.is.len c3] 24)
             clear hst)
          | (go_at_call 44
             have hN := rnext_ok _ r s a3 i3 j3 m3 hR4 hp3 (by rw [hY3]; exact heh.out)
             rw [hY3] at hN
             refine hN.mono ?_
             rintro e w5 ⟨rfl, hR5, ht5⟩
             clear hN
             unfold tka6
             have hL5 := hL4.turns ht5 (by omega)
             have hD5 := hD3.turns ht5 (by omega)
             have hz5 := hD5.lt
             have x0 : w5.cell? ⟨w3.heap.size, 0, none⟩ = some (.int .i64 d.k) := hD5.cell 0
             have x1 : w5.cell? ⟨w3.heap.size, 1, none⟩ = some (.int .i64 d.n) := hD5.cell 1
             have x2 : w5.cell? ⟨w3.heap.size, 2, none⟩ = some (.string ⟨d.s.toArray⟩) := hD5.cell 2
             have x3 : w5.cell? ⟨w3.heap.size, 3, none⟩ = some (.slice A3 d.is.len c3) := hD5.cell 3
             have ht6 : Turns (fun k => k = r) w w5 := (ht4.alloc _).trans ht5)
          | (go_at_call 62
             have hF := fault_any Y (a3 + Y.len) 5
             unfold tka6 at hF
             refine (hF _).mono ?_
             rintro e w7 ⟨rfl, hb7⟩
             clear hF
             have hL7 := (hL5.alloc (.cells #[.int .i64 Y.t.k, .int .i64 Y.t.n, .string ⟨Y.t.s.toArray⟩, .int .i64 Y.line, .int .i64 Y.col, .int .i64 (a3 + Y.len : Nat)] 103)).below hb7 (by simp; omega)
             have y0 : w7.cell? ⟨w.heap.size, 0, none⟩ = some (.int .i64 0) := hL7.cell 0
             have y1 : w7.cell? ⟨w.heap.size, 1, none⟩ = some (.int .i64 0) := hL7.cell 1
             have y2 : w7.cell? ⟨w.heap.size, 2, none⟩ = some (.string ⟨#[]⟩) := hL7.cell 2
             have y3 : w7.cell? ⟨w.heap.size, 3, none⟩ = some (.slice none 0 0) := hL7.cell 3
             have f7 := hL7.free
             have ht8 : Turns (fun k => k = r) w w7 := (ht6.alloc _).trans (Turns.of_below hb7 _)
             unfold dt0 ekv))
        exact bodyPost_ret (v := .tuple #[.agg #[.int .i64 0, .int .i64 0, .string ⟨#[]⟩, .slice none 0 0], ekv (5, Y.line, Y.col)]) (by simp [results, Tryz.results76, go_sem, y0, y1, y2, y3, ekv]) rfl ⟨rfl, (four_turns ht8 (Nat.le_refl _) _ _ _ _).mono (fun _ _ h => .inl h)⟩
      · have e14 : (Y.t.k == 14) = false := by simp [h14]
        by_cases h2 : Y.t.k = 2
        · have hE : dotEnd items d Y t.after = .ok (RM.joined items d, t.after) := by unfold dotEnd; rw [if_neg h14, if_neg (by simp [h2])]
          rw [hE]
          clear hE
          have e2 : (Y.t.k != 2) = false := by simp [h2]
          have h14' := Lib.hid h14
          clear h14 h2
          unfold RPostG
          go_enter Tryz.func76, Tryz.ntmps76
          go_wp2_with (first
            | (go_at_call 77
               refine (hC.out _ hR0).mono ?_
               rintro e w3 ⟨vd, a3, i3, j3, m3, rfl, hst, hp3, hR3, hd3, ht3⟩
               obtain ⟨A3, c3, rfl⟩ := hd3.read
               have hY3 : LM.nx (s.data.toList.drop a3) i3 j3 = Y := by have h := hYh.out; rw [hst] at h; exact h
               have hst' := Lib.hid hst
               have hL3 : Lies w3 w.heap.size 24 zd4 := (Lies.made w 24 zd4.toArray).turns ht3 (by omega)
               have hz3 := hL3.lt
               have ht4 : Turns (fun k => k = r) w w3 := ((Turns.refl _ w).alloc _).trans ht3
               have hD3 := Lies.made w3 24 #[.int .i64 d.k, .int .i64 d.n, .string ⟨d.s.toArray⟩, .slice A3 d.is.len c3]
               have hR4 : Rd (w3.alloc (.cells #[.int .i64 d.k, .int .i64 d.n, .string ⟨d.s.toArray⟩, .slice A3 d.is.len c3] 24)) r s a3 i3 j3 m3 := Lies.alloc hR3 _
               have hL4 := hL3.alloc (.cells #[.int .i64 d.k, .int .i64 d.n, .string ⟨d.s.toArray⟩, .slice A3 d.is.len c3] 24)
               clear hst)
            | (go_at_call 44
               have hN := rnext_ok _ r s a3 i3 j3 m3 hR4 hp3 (by rw [hY3]; exact heh.out)
               rw [hY3] at hN
               refine hN.mono ?_
               rintro e w5 ⟨rfl, hR5, ht5⟩
               clear hN
               unfold tka6
               have hL5 := hL4.turns ht5 (by omega)
               have hD5 := hD3.turns ht5 (by omega)
               have hz5 := hD5.lt
               have x0 : w5.cell? ⟨w3.heap.size, 0, none⟩ = some (.int .i64 d.k) := hD5.cell 0
               have x1 : w5.cell? ⟨w3.heap.size, 1, none⟩ = some (.int .i64 d.n) := hD5.cell 1
               have x2 : w5.cell? ⟨w3.heap.size, 2, none⟩ = some (.string ⟨d.s.toArray⟩) := hD5.cell 2
               have x3 : w5.cell? ⟨w3.heap.size, 3, none⟩ = some (.slice A3 d.is.len c3) := hD5.cell 3
               have ht6 : Turns (fun k => k = r) w w5 := (ht4.alloc _).trans ht5)
            | (go_at_call 89
               have hI0 : Its w (fun g => S g ∧ g ≠ w.heap.size) (.slice Ai items.len ci) items := hI.mono (fun g hg hs => ⟨hs, by omega⟩)
               have hI5 := (hI0.turns ht6 (fun g _ hs hh => hSr (hh ▸ hs.1))).turns ((Turns.refl (fun _ => False) w5).alloc (.cells #[.int .i64 Y.t.k, .int .i64 Y.t.n, .string ⟨Y.t.s.toArray⟩, .int .i64 Y.line, .int .i64 Y.col, .int .i64 (a3 + Y.len : Nat)] 103)) (fun _ _ _ h => h)
               have hs6 := ht6.size
               have hd5 : Dat (w5.alloc (.cells #[.int .i64 Y.t.k, .int .i64 Y.t.n, .string ⟨Y.t.s.toArray⟩, .int .i64 Y.line, .int .i64 Y.col, .int .i64 (a3 + Y.len : Nat)] 103)) (fun g => (S g ∧ g ≠ w.heap.size) ∧ (Value.slice Ai items.len ci).ownBlock ≠ some g) (.slice A3 d.is.len c3) d.is :=
                 (((hd3.turns ((Turns.refl (fun _ => False) w3).alloc _) (fun _ _ _ h => h)).turns ht5 (fun g _ hs hh => by simp at hs; omega)).turns ((Turns.refl (fun _ => False) w5).alloc _) (fun _ _ _ h => h)).mono (fun g _ hs => by
                   simp at hs
                   exact ⟨⟨hS g (by omega), by omega⟩, fun hh => by have := (hIl.out g hh).2; omega⟩)
               refine (joined_any _ (.slice Ai items.len ci) (.slice A3 d.is.len c3) items d (fun g => S g ∧ g ≠ w.heap.size) hI5 hd5 (fun g hg => ⟨hS g (by simp at hg; omega), by simp at hg; omega⟩) (by omega)).mono ?_
               rintro e w7 ⟨v7, rfl, hI7, ht7⟩
               obtain ⟨A7, c7, rfl⟩ := hI7.read
               have hL7 := (hL5.alloc (.cells #[.int .i64 Y.t.k, .int .i64 Y.t.n, .string ⟨Y.t.s.toArray⟩, .int .i64 Y.line, .int .i64 Y.col, .int .i64 (a3 + Y.len : Nat)] 103)).turns ht7 (fun hh => by have := (hIl.out _ hh).2; omega)
               have hR7 := (Lies.alloc hR5 (.cells #[.int .i64 Y.t.k, .int .i64 Y.t.n, .string ⟨Y.t.s.toArray⟩, .int .i64 Y.line, .int .i64 Y.col, .int .i64 (a3 + Y.len : Nat)] 103)).turns ht7 (fun hh => hSr (hIl.out _ hh).1)
               have hz7 := hL7.lt
               have y0 : w7.cell? ⟨w.heap.size, 0, none⟩ = some (.int .i64 0) := hL7.cell 0
               have y1 : w7.cell? ⟨w.heap.size, 1, none⟩ = some (.int .i64 0) := hL7.cell 1
               have y2 : w7.cell? ⟨w.heap.size, 2, none⟩ = some (.string ⟨#[]⟩) := hL7.cell 2
               have y3 : w7.cell? ⟨w.heap.size, 3, none⟩ = some (.slice none 0 0) := hL7.cell 3
               have f7 := hL7.free
               have ht8 : Turns (fun k => k = r ∨ (Value.slice Ai items.len ci).ownBlock = some k) w w7 := ((ht6.alloc _).mono (fun _ _ h => .inl h)).trans (ht7.mono (fun _ _ h => .inr h))
               clear hI0 hI5 hd5))
          refine bodyPost_ret (v := .tuple #[.agg #[.int .i64 (RM.joined items d).k, .int .i64 0, .string ⟨#[]⟩, .slice A7 (RM.joined items d).is.len c7], .nilIface]) (by simp [results, Tryz.results76, go_sem, y0, y1, y2, y3]) rfl ⟨.slice A7 (RM.joined items d).is.len c7, a3 + Y.len, (LM.mv (seg s a3 Y.len) i3 j3).1, (LM.mv (seg s a3 Y.len) i3 j3).2, m3 + 1, ?_, ?_, ?_, four_far (g := w.heap.size) hR7 (by omega) _ _ _ _, ?_, four_turns ht8 (Nat.le_refl _) _ _ _ _⟩
          · rw [joined_n, joined_s]
          · rw [hst'.out, stt_after, hY3]
          · have h := hp3.after (by rw [hY3]; exact heh.out)
            rw [hY3] at h
            exact h h14'.out
          · exact (hI7.dat.turns (four_one w7 w.heap.size _ _ _ _) (fun g _ hs hh => hs.2 hh)).mono (fun g _ hs => hs.1)
        · have hE : dotEnd items d Y t.after = .error (6, Y.line, Y.col) := by unfold dotEnd; rw [if_neg h14, if_pos h2]
          rw [hE]
          clear hE
          have e2 : (Y.t.k != 2) = true := by simp [h2]
          clear h14 h2
          unfold RPostG
          go_enter Tryz.func76, Tryz.ntmps76
          go_wp2_with (first
            | (go_at_call 77
               refine (hC.out _ hR0).mono ?_
               rintro e w3 ⟨vd, a3, i3, j3, m3, rfl, hst, hp3, hR3, hd3, ht3⟩
               obtain ⟨A3, c3, rfl⟩ := hd3.read
               have hY3 : LM.nx (s.data.toList.drop a3) i3 j3 = Y := by have h := hYh.out; rw [hst] at h; exact h
               have hst' := Lib.hid hst
               have hL3 : Lies w3 w.heap.size 24 zd4 := (Lies.made w 24 zd4.toArray).turns ht3 (by omega)
               have hz3 := hL3.lt
               have ht4 : Turns (fun k => k = r) w w3 := ((Turns.refl _ w).alloc _).trans ht3
               have hD3 := Lies.made w3 24 #[.int .i64 d.k, .int .i64 d.n, .string ⟨d.s.toArray⟩, .slice A3 d.is.len c3]
               have hR4 : Rd (w3.alloc (.cells #[.int .i64 d.k, .int .i64 d.n, .string ⟨d.s.toArray⟩, .slice A3 d.is.len c3] 24)) r s a3 i3 j3 m3 := Lies.alloc hR3 _
               have hL4 := hL3.alloc (.cells #[.int .i64 d.k, .int .i64 d.n, .string ⟨d.s.toArray⟩, .slice A3 d.is.len c3] 24)
               clear hst)
            | (go_at_call 44
               have hN := rnext_ok _ r s a3 i3 j3 m3 hR4 hp3 (by rw [hY3]; exact heh.out)
               rw [hY3] at hN
               refine hN.mono ?_
               rintro e w5 ⟨rfl, hR5, ht5⟩
               clear hN
               unfold tka6
               have hL5 := hL4.turns ht5 (by omega)
               have hD5 := hD3.turns ht5 (by omega)
               have hz5 := hD5.lt
               have x0 : w5.cell? ⟨w3.heap.size, 0, none⟩ = some (.int .i64 d.k) := hD5.cell 0
               have x1 : w5.cell? ⟨w3.heap.size, 1, none⟩ = some (.int .i64 d.n) := hD5.cell 1
               have x2 : w5.cell? ⟨w3.heap.size, 2, none⟩ = some (.string ⟨d.s.toArray⟩) := hD5.cell 2
               have x3 : w5.cell? ⟨w3.heap.size, 3, none⟩ = some (.slice A3 d.is.len c3) := hD5.cell 3
               have ht6 : Turns (fun k => k = r) w w5 := (ht4.alloc _).trans ht5)
            | (go_at_call 62
               have hF := fault_any Y (a3 + Y.len) 6
               unfold tka6 at hF
               refine (hF _).mono ?_
               rintro e w7 ⟨rfl, hb7⟩
               clear hF
               have hL7 := (hL5.alloc (.cells #[.int .i64 Y.t.k, .int .i64 Y.t.n, .string ⟨Y.t.s.toArray⟩, .int .i64 Y.line, .int .i64 Y.col, .int .i64 (a3 + Y.len : Nat)] 103)).below hb7 (by simp; omega)
               have y0 : w7.cell? ⟨w.heap.size, 0, none⟩ = some (.int .i64 0) := hL7.cell 0
               have y1 : w7.cell? ⟨w.heap.size, 1, none⟩ = some (.int .i64 0) := hL7.cell 1
               have y2 : w7.cell? ⟨w.heap.size, 2, none⟩ = some (.string ⟨#[]⟩) := hL7.cell 2
               have y3 : w7.cell? ⟨w.heap.size, 3, none⟩ = some (.slice none 0 0) := hL7.cell 3
               have f7 := hL7.free
               have ht8 : Turns (fun k => k = r) w w7 := (ht6.alloc _).trans (Turns.of_below hb7 _)
               unfold dt0 ekv))
          exact bodyPost_ret (v := .tuple #[.agg #[.int .i64 0, .int .i64 0, .string ⟨#[]⟩, .slice none 0 0], ekv (6, Y.line, Y.col)]) (by simp [results, Tryz.results76, go_sem, y0, y1, y2, y3, ekv]) rfl ⟨rfl, (four_turns ht8 (Nat.le_refl _) _ _ _ _).mono (fun _ _ h => .inl h)⟩
    · have hG : RM.nxt t (dotEnd items d) = .error (Y.t.e, Y.line, Y.col) := by unfold RM.nxt; rw [if_pos (by rw [hY]; exact he), hY]
      rw [hG]
      clear hG
      have hYh := Lib.hid hY
      have heh := Lib.hid he
      clear hY he
      unfold RPostG
      go_enter Tryz.func76, Tryz.ntmps76
      go_wp2_with (first
        | (go_at_call 77
           refine (hC.out _ hR0).mono ?_
           rintro e w3 ⟨vd, a3, i3, j3, m3, rfl, hst, hp3, hR3, hd3, ht3⟩
           obtain ⟨A3, c3, rfl⟩ := hd3.read
           have hY3 : LM.nx (s.data.toList.drop a3) i3 j3 = Y := by have h := hYh.out; rw [hst] at h; exact h
           have hst' := Lib.hid hst
           have hL3 : Lies w3 w.heap.size 24 zd4 := (Lies.made w 24 zd4.toArray).turns ht3 (by omega)
           have hz3 := hL3.lt
           have ht4 : Turns (fun k => k = r) w w3 := ((Turns.refl _ w).alloc _).trans ht3
           have hD3 := Lies.made w3 24 #[.int .i64 d.k, .int .i64 d.n, .string ⟨d.s.toArray⟩, .slice A3 d.is.len c3]
           have hR4 : Rd (w3.alloc (.cells #[.int .i64 d.k, .int .i64 d.n, .string ⟨d.s.toArray⟩, .slice A3 d.is.len c3] 24)) r s a3 i3 j3 m3 := Lies.alloc hR3 _
           have hL4 := hL3.alloc (.cells #[.int .i64 d.k, .int .i64 d.n, .string ⟨d.s.toArray⟩, .slice A3 d.is.len c3] 24)
           clear hst)
        | (go_at_call 44
           have hN := rnext_bad _ r s a3 i3 j3 m3 hR4 hp3 (by rw [hY3]; exact heh.out)
           rw [hY3] at hN
           refine hN.mono ?_
           rintro e w5 ⟨rfl, hb5⟩
           clear hN
           unfold tk0 erv
           have hL5 := hL4.below hb5 (by simp; omega)
           have hz5 := hL5.lt
           have y0 : w5.cell? ⟨w.heap.size, 0, none⟩ = some (.int .i64 0) := hL5.cell 0
           have y1 : w5.cell? ⟨w.heap.size, 1, none⟩ = some (.int .i64 0) := hL5.cell 1
           have y2 : w5.cell? ⟨w.heap.size, 2, none⟩ = some (.string ⟨#[]⟩) := hL5.cell 2
           have y3 : w5.cell? ⟨w.heap.size, 3, none⟩ = some (.slice none 0 0) := hL5.cell 3
           have f5 := hL5.free
           have ht6 : Turns (fun k => k = r) w w5 := (ht4.alloc _).trans (Turns.of_below hb5 _)))
      have hF := (four_lies hL5 (.int .i64 0) (.int .i64 0) (.string ⟨#[]⟩) (.slice none 0 0)).alloc (.cells #[.int .i64 0, .int .i64 0, .string ⟨#[]⟩, .int .i64 0, .int .i64 0, .int .i64 0] 103)
      have q0 := hF.cell 0
      have q1 := hF.cell 1
      have q2 := hF.cell 2
      have q3 := hF.cell 3
      have ht7 := (four_turns ht6 (Nat.le_refl _) (.int .i64 0) (.int .i64 0) (.string ⟨#[]⟩) (.slice none 0 0)).alloc (.cells #[.int .i64 0, .int .i64 0, .string ⟨#[]⟩, .int .i64 0, .int .i64 0, .int .i64 0] 103)
      unfold four at q0 q1 q2 q3 ht7
      simp only [List.getElem?_cons_zero, List.getElem?_cons_succ] at q0 q1 q2 q3
      exact bodyPost_ret (v := .tuple #[.agg #[.int .i64 0, .int .i64 0, .string ⟨#[]⟩, .slice none 0 0], ekv (Y.t.e, Y.line, Y.col)]) (by simp [results, Tryz.results76, go_sem, q0, q1, q2, q3, ekv]) rfl ⟨rfl, ht7.mono (fun _ _ h => .inl h)⟩
end Go.Proofs.YtbomodendobnkaaGreat
