/- Package env: a place within another one. -/
import Derived.Test.YtbkjmmeipbbaaaaDoorEnvCallsD
namespace Go.Proofs.YtbkjmmeipbbaaaaDoor
open Go.ChangeShapes Go.WideShapes Go.ChangeAt Go.RowKit

/-- what a call that writes leaves: the table T, all of it in old blocks of its own, or in new ones -/
def Wrote (p : Nat) (D : Nat → Prop) (T : EM.Tb) (w w' : World) : Prop := ∃ D', Tw w' p D' T ∧ (∀ g, D' g → D g ∨ w.heap.size ≤ g) ∧ Turns D w w'
theorem Wrote.same {p : Nat} {D : Nat → Prop} {T : EM.Tb} {w w' : World} (h : Tw w p D T) (k : Went w w') : Wrote p D T w w' := ⟨D, h.below k, fun _ hg => .inl hg, Turns.of_below k D⟩

set_option maxRecDepth 100000 in
theorem ext_nil (a : Int) (x : ByteArray) (k n : Int) (w : World) :
    Calls Tryd.prog 11 #[.pointer none, .int .i64 a, .string x, .agg #[.int .i64 k, .int .i64 n]] w fun e w' => e = .returned (.tuple #[.int .i64 0, er 1]) ∧ Went w w' := by
  have hK := Lib.hid (fun w => check_nil a x w)
  rw [er_y (by omega)] at hK ⊢
  go_enter Tryd.func11, Tryd.ntmps11
  go_wp2_with (go_at_call 24; refine (hK.out _).mono ?_; rintro e w' ⟨rfl, rfl⟩)
  go_ret2
  exact ⟨rfl, (Below.refl _ w).alloc (Nat.le_refl _) _⟩
set_option maxRecDepth 100000 in
theorem ext_bad (p : Nat) (D : Nat → Prop) (T : EM.Tb) (a : Int) (x : ByteArray) (hx : x.size ≤ 1000) (k n : Int) (w : World) (h : Tw w p D T) (hc : EM.ck T a x ≠ 0) :
    Calls Tryd.prog 11 #[.pointer (some ⟨p, 0, none⟩), .int .i64 a, .string x, .agg #[.int .i64 k, .int .i64 n]] w fun e w' => e = .returned (.tuple #[.int .i64 0, er (EM.ck T a x)]) ∧ Went w w' := by
  have hK := Lib.hid (fun w h => check_any p D T a x (by omega) w h)
  have hW := (Below.refl _ w).alloc (Nat.le_refl w.heap.size) (.cells #[.int .i64 k, .int .i64 n] 24)
  have h' := Lib.hid (h.below hW)
  have hW' := Lib.hid hW
  clear h hx hW
  rw [er_y hc] at hK ⊢
  obtain ⟨j, hj⟩ : ∃ j, EM.ck T a x = j := ⟨_, rfl⟩
  rw [hj] at hK ⊢
  clear hj hc
  go_enter Tryd.func11, Tryd.ntmps11
  go_wp2_with (go_at_call 24; refine (hK.out _ h'.out).mono ?_; rintro e w' ⟨rfl, hb⟩; have hb2 := Lib.hid (hW'.out.trans (Below.mono hb (by simp))))
  go_ret2
  exact ⟨rfl, hb2.out⟩
set_option maxRecDepth 100000 in
theorem ext_kind (p : Nat) (D : Nat → Prop) (T : EM.Tb) (a : Int) (x : ByteArray) (hx : x.size ≤ 1000) (k n : Int) (w : World) (h : Tw w p D T) (hc : EM.ck T a x = 0) (hk : k < 1 ∨ 3 < k) :
    Calls Tryd.prog 11 #[.pointer (some ⟨p, 0, none⟩), .int .i64 a, .string x, .agg #[.int .i64 k, .int .i64 n]] w fun e w' => e = .returned (.tuple #[.int .i64 0, er 2]) ∧ Went w w' := by
  have hK := Lib.hid (fun w h => check_any p D T a x (by omega) w h)
  have hI := Lib.hid (fun w => isMeaning_any k n w)
  have hW := (Below.refl _ w).alloc (Nat.le_refl w.heap.size) (.cells #[.int .i64 k, .int .i64 n] 24)
  have h' := Lib.hid (h.below hW)
  have hW' := Lib.hid hW
  have hM := Lib.hid (Lies.made w 24 #[.int .i64 k, .int .i64 n])
  clear h hx hW
  rw [hc, er_n] at hK
  rw [er_y (by omega)]
  clear hc
  by_cases h0 : k = 0
  · subst h0
    go_enter Tryd.func11, Tryd.ntmps11
    go_wp2_with (
      go_at_call 24
      refine (hK.out _ h'.out).mono ?_
      rintro e w' ⟨rfl, hb⟩
      have hL := hM.out.below hb (by simp)
      have l0 : w'.cell? ⟨w.heap.size, 0, none⟩ = some (.int .i64 0) := hL.cell 0
      have hb2 := Lib.hid (hW'.out.trans (Below.mono hb (by simp)))
      clear hL hb)
    go_ret2
    exact ⟨rfl, hb2.out⟩
  · rw [decide_eq_false (show ¬ (0 ≤ k ∧ k ≤ 3) by omega)] at hI
    go_enter Tryd.func11, Tryd.ntmps11
    go_wp2_with (first
      | (go_at_call 24
         refine (hK.out _ h'.out).mono ?_
         rintro e w' ⟨rfl, hb⟩
         have hL := hM.out.below hb (by simp)
         have l0 : w'.cell? ⟨w.heap.size, 0, none⟩ = some (.int .i64 k) := hL.cell 0
         have l1 : w'.cell? ⟨w.heap.size, 1, none⟩ = some (.int .i64 n) := hL.cell 1
         have hb2 := Lib.hid (hW'.out.trans (Below.mono hb (by simp)))
         clear hL hb)
      | (go_at_call 21
         refine (hI.out _).mono ?_
         rintro e w5 ⟨rfl, hb⟩
         have hb3 := Lib.hid (hb2.out.trans (Below.mono hb hb2.out.size))
         clear hb))
    go_ret2
    exact ⟨rfl, hb3.out⟩
set_option maxRecDepth 100000 in
theorem ext_full (p : Nat) (D : Nat → Prop) (T : EM.Tb) (a : Int) (x : ByteArray) (hx : x.size ≤ 1000) (k n : Int) (w : World) (h : Tw w p D T) (hc : EM.ck T a x = 0) (hk : 1 ≤ k ∧ k ≤ 3) (hl : T.P.length = 65536) :
    Calls Tryd.prog 11 #[.pointer (some ⟨p, 0, none⟩), .int .i64 a, .string x, .agg #[.int .i64 k, .int .i64 n]] w fun e w' => e = .returned (.tuple #[.int .i64 0, er 14]) ∧ Went w w' := by
  have hK := Lib.hid (fun w h => check_any p D T a x (by omega) w h)
  have hI := Lib.hid (fun w => isMeaning_any k n w)
  have hW := (Below.refl _ w).alloc (Nat.le_refl w.heap.size) (.cells #[.int .i64 k, .int .i64 n] 24)
  have h' := Lib.hid (h.below hW)
  have hW' := Lib.hid hW
  have hM := Lib.hid (Lies.made w 24 #[.int .i64 k, .int .i64 n])
  have hl' := Lib.hid hl
  clear h hx hW hl
  rw [hc, er_n] at hK
  rw [er_y (by omega)]
  clear hc
  have h0 : ¬ k = 0 := by omega
  rw [decide_eq_true (show 0 ≤ k ∧ k ≤ 3 by omega)] at hI
  go_enter Tryd.func11, Tryd.ntmps11
  go_wp2_with (first
    | (go_at_call 24
       refine (hK.out _ h'.out).mono ?_
       rintro e w' ⟨rfl, hb⟩
       have hL := hM.out.below hb (by simp)
       have l0 : w'.cell? ⟨w.heap.size, 0, none⟩ = some (.int .i64 k) := hL.cell 0
       have l1 : w'.cell? ⟨w.heap.size, 1, none⟩ = some (.int .i64 n) := hL.cell 1
       have hb2 := Lib.hid (hW'.out.trans (Below.mono hb (by simp)))
       have hT2 := Lib.hid (h'.out.below hb)
       clear hL hb)
    | (go_at_call 21
       refine (hI.out _).mono ?_
       rintro e w5 ⟨rfl, hb⟩
       have hb3 := Lib.hid (hb2.out.trans (Below.mono hb hb2.out.size))
       obtain ⟨⟨mt, v, ma, nt, h1, h2, h3, h4, h5, h6, h7, h8⟩, h9, h10⟩ := hT2.out.below hb
       obtain ⟨A, c, rfl⟩ := h2.read
       have c1 : w5.cell? ⟨p, 1, none⟩ = some (.slice A T.P.length c) := h1.cell 1
       rw [hl'.out] at c1
       clear h1 h2 h3 h4 h5 h6 h7 h8 h9 h10 hb))
  go_ret2
  exact ⟨rfl, hb3.out⟩
theorem flat_push (l : List EM.Pl) (q : EM.Pl) : l.flatMap pcs ++ pcs q = (l ++ [q]).flatMap pcs := by simp
theorem Tw.pushed {w w4 w6 : World} {p : Nat} {D : Nat → Prop} {T : EM.Tb} {q : EM.Pl} {v v' : Value} {mt ma : Value} {nt : Nat} (hD : D p) (hlow : ∀ g, D g → g < w.heap.size) (h1 : Lies w4 p 63 [mt, v, ma]) (h2 : OwnPl w4 v T.P) (h3 : Mv encM w4 0 mt nt T.tp) (h4 : nt ≤ T.nt) (h5 : Mv encB w4 0 ma T.na T.A)
    (h6 : ∀ q, mt = .map (some q) → D q ∧ ma ≠ .map (some q)) (h7 : ∀ q, ma = .map (some q) → D q) (h8 : ∀ g, v.ownBlock = some g → D g) (hw : Below w.heap.size w w4) (hb : Went w4 w6)
    (w9 : World) (ho : w9.ownsRow 0 73 4 v' (T.P.length + 1) (T.P.flatMap pcs ++ pcs q)) (hg : w6.grownBy w9 v.ownBlock) (hat : v'.ownBlock = v.ownBlock ∨ v'.ownBlock = some w6.heap.size) :
    Wrote p D { T with P := T.P ++ [q] } w (w9.setCell ⟨p, 1, none⟩ v') := by
  have hpr : ∀ g, v.ownBlock = some g → g ≠ p := fun g hg e => by
    subst e
    rcases h2.2 with ⟨rfl, _⟩ | ⟨g', cap, cur, rfl, _, hh, _⟩
    · simp [Value.ownBlock] at hg
    · have : g' = g := by simpa [Value.ownBlock] using hg
      subst this
      have := h1
      unfold Lies at this
      rw [hh] at this
      simp at this
  have hw6 : Below w.heap.size w w6 := hw.trans (Below.mono hb hw.size)
  have T9 : Turns (fun g => v.ownBlock = some g) w4 w9 := (Turns.of_below hb (fun g => v.ownBlock = some g)).then (Turns.appendedS hg) (fun _ _ h => h)
  have T10 : Turns (fun g => v.ownBlock = some g ∨ g = p) w4 (w9.setCell ⟨p, 1, none⟩ v') := (T9.mono (fun _ _ h => .inl h)).setCell (p := ⟨p, 1, none⟩) (fun _ => .inr rfl) v'
  have hpo : v.ownBlock ≠ some p := fun e => hpr p e rfl
  have hsz : w.heap.size ≤ w6.heap.size := hw6.size
  have hL := (h1.turns T9 hpo).stored 1 v'
  have h9s : w6.heap.size ≤ w9.heap.size := hg.size
  have hrow : OwnPl (w9.setCell ⟨p, 1, none⟩ v') v' (T.P ++ [q]) := by
    unfold OwnPl
    rw [List.length_append, ← flat_push]
    refine own_turns ho ((Turns.refl (fun g => g = p) w9).setCell (p := ⟨p, 1, none⟩) (fun _ => rfl) v') (fun g hg' e => ?_)
    rcases hat with e1 | e1
    · rw [e1] at hg'; exact hpr g hg' e
    · rw [e1] at hg'
      simp only [Option.some.injEq] at hg'
      have := hlow p hD; omega
  have hmt : ∀ q, mt = .map (some q) → ¬ (v.ownBlock = some q ∨ q = p) := fun q e hh => by
    subst e
    rcases h3 with ⟨e, _⟩ | ⟨q', e, _, hS⟩
    · simp at e
    · have : q = q' := by simpa using e
      subst this
      rcases hh with hh | hh
      · exact hS.not_row h2 hh
      · exact hS.apart h1 hh
  have hma : ∀ q, ma = .map (some q) → ¬ (v.ownBlock = some q ∨ q = p) := fun q e hh => by
    subst e
    rcases h5 with ⟨e, _⟩ | ⟨q', e, _, hS⟩
    · simp at e
    · have : q = q' := by simpa using e
      subst this
      rcases hh with hh | hh
      · exact hS.not_row h2 hh
      · exact hS.apart h1 hh
  have hv' : ∀ g, v'.ownBlock = some g → D g ∨ (w.heap.size ≤ g ∧ g < (w9.setCell ⟨p, 1, none⟩ v').heap.size) := fun g hg' => by
    rcases hat with e1 | e1
    · rw [e1] at hg'; exact .inl (h8 g hg')
    · rw [e1] at hg'
      simp only [Option.some.injEq] at hg'
      have := (World.ownsRow.lt ho g (by rw [e1, hg'])).2
      exact .inr ⟨by omega, by simpa using this⟩
  refine ⟨fun g => D g ∨ v'.ownBlock = some g, ⟨⟨mt, v', ma, nt, hL, hrow, h3.turns T10 hmt, h4, h5.turns T10 hma, fun q e => ⟨.inl (h6 q e).1, (h6 q e).2⟩, fun q e => .inl (h7 q e), fun g e => .inr e⟩, .inl hD, fun g hg' => ?_⟩, fun g hg' => ?_, ?_⟩
  · rcases hg' with hg' | hg'
    · have := hlow g hg'; simp; omega
    · rcases hv' g hg' with h | h
      · have := hlow g h; simp; omega
      · exact h.2
  · rcases hg' with hg' | hg'
    · exact .inl hg'
    · rcases hv' g hg' with h | h
      · exact .inl h
      · exact .inr h.1
  · exact (Turns.of_below hw D).then T10 (fun g _ h => by rcases h with h | rfl; exact h8 g h; exact hD)

set_option maxRecDepth 100000 in
set_option maxHeartbeats 1000000 in
theorem ext_ok (p : Nat) (D : Nat → Prop) (T : EM.Tb) (a : Nat) (x : ByteArray) (hx : x.size ≤ 1000) (k n : Int) (w : World) (h : Tw w p D T) (hc : EM.ck T a x = 0) (hk : 1 ≤ k ∧ k ≤ 3) (hl : T.P.length < 65536) :
    Calls Tryd.prog 11 #[.pointer (some ⟨p, 0, none⟩), .int .i64 (a : Nat), .string x, .agg #[.int .i64 k, .int .i64 n]] w fun e w' => e = .returned (.tuple #[.int .i64 ((T.P.length : Int) + 1), .nilIface]) ∧ Wrote p D { T with P := T.P ++ [⟨a, x, k, n⟩] } w w' := by
  have hK := Lib.hid (fun w h => check_any p D T a x (by omega) w h)
  have hI := Lib.hid (fun w => isMeaning_any k n w)
  have hC := Lib.hid (fun w => stringsClone_any x (by omega) w)
  have hW := (Below.refl _ w).alloc (Nat.le_refl w.heap.size) (.cells #[.int .i64 k, .int .i64 n] 24)
  have h' := Lib.hid (h.below hW)
  have hW' := Lib.hid hW
  have hM := Lib.hid (Lies.made w 24 #[.int .i64 k, .int .i64 n])
  have hself := Lib.hid h.self
  have hlow := Lib.hid h.low
  have hpw := h.low p h.self
  obtain ⟨L, hL⟩ : ∃ L, T.P.length = L := ⟨_, rfl⟩
  rw [hL] at hl ⊢
  have hL' := Lib.hid hL
  have hl' := Lib.hid hl
  have hne : ¬ (L : Int) = 65536 := by omega
  clear h hx hW hl hL
  rw [hc, er_n] at hK
  clear hc
  have h0 : ¬ k = 0 := by omega
  rw [decide_eq_true (show 0 ≤ k ∧ k ≤ 3 by omega)] at hI
  clear hk
  go_enter Tryd.func11, Tryd.ntmps11
  go_wp2_with (first
    | (go_at_call 24
       refine (hK.out _ h'.out).mono ?_
       rintro e w' ⟨rfl, hb⟩
       have hL := hM.out.below hb (by simp)
       have l0 : w'.cell? ⟨w.heap.size, 0, none⟩ = some (.int .i64 k) := hL.cell 0
       have l1 : w'.cell? ⟨w.heap.size, 1, none⟩ = some (.int .i64 n) := hL.cell 1
       have hLM := Lib.hid hL
       have hb2 := Lib.hid (hW'.out.trans (Below.mono hb (by simp)))
       have hT2 := Lib.hid (h'.out.below hb)
       clear hL hb)
    | (go_at_call 21
       refine (hI.out _).mono ?_
       rintro e w5 ⟨rfl, hb⟩
       have hb3 := Lib.hid (hb2.out.trans (Below.mono hb hb2.out.size))
       have hLM5 := Lib.hid (hLM.out.below hb hLM.out.lt)
       have k0 : w5.cell? ⟨w.heap.size, 0, none⟩ = some (.int .i64 k) := hLM5.out.cell 0
       have k1 : w5.cell? ⟨w.heap.size, 1, none⟩ = some (.int .i64 n) := hLM5.out.cell 1
       obtain ⟨⟨mt, v, ma, nt, h1, h2, h3, h4, h5, h6, h7, h8⟩, h9, h10⟩ := hT2.out.below hb
       obtain ⟨A, c, rfl⟩ := h2.read
       have c1 : w5.cell? ⟨p, 1, none⟩ = some (.slice A T.P.length c) := h1.cell 1
       rw [hL'.out] at c1 h1 h2 h8
       have hAll := Lib.hid (And.intro h1 (And.intro h2 (And.intro h3 (And.intro h4 (And.intro h5 (And.intro h6 (And.intro h7 h8)))))))
       have hpl := h1.lt
       clear h1 h2 h3 h4 h5 h6 h7 h8 h9 h10 hb l0 l1))
  go_region_law
    ((first
      | (rw [if_pos (by rfl)]
         go_simp
         go_at_call 22
         refine (hC.out _).mono ?_
         rintro e w6 ⟨rfl, hb⟩
         have hb6 := Lib.hid (Went.of_drew hb)
         have c6 : w6.cell? ⟨p, 1, none⟩ = some (.slice A L c) := (Below.cell hb6.out (p := ⟨p, 1, none⟩) hpl).trans c1
         have k6 : w6.cell? ⟨w.heap.size, 0, none⟩ = some (.int .i64 k) := (Below.cell hb6.out (p := ⟨w.heap.size, 0, none⟩) hLM5.out.lt).trans k0
         have k7 : w6.cell? ⟨w.heap.size, 1, none⟩ = some (.int .i64 n) := (Below.cell hb6.out (p := ⟨w.heap.size, 1, none⟩) hLM5.out.lt).trans k1
         have hp6 : p < w6.heap.size := Nat.lt_of_lt_of_le hpl (Below.size hb6.out)
         have hs6 : w.heap.size < w6.heap.size := Nat.lt_of_lt_of_le hLM5.out.lt (Below.size hb6.out)
         have hal := Lib.hid ((Below.refl _ w6).alloc (Nat.le_refl w6.heap.size) (.cells #[.int .i64 (a : Nat), .string x, .int .i64 k, .int .i64 n] 73))
         have hrow : (w6.alloc (.cells #[.int .i64 (a : Nat), .string x, .int .i64 k, .int .i64 n] 73)).ownsRow 0 73 4 (.slice A L c) L (T.P.flatMap pcs) := by
           have h2 := hAll.out.2.1
           unfold OwnPl at h2
           rw [hL'.out] at h2
           exact own_below (own_below h2 hb6.out) hal.out
         have hrow' := Lib.hid hrow
         clear hrow hb)
      | (refine step_append_own (w := w6.alloc (.cells #[.int .i64 (a : Nat), .string x, .int .i64 k, .int .i64 n] 73)) (v := .slice A L c) (x := .slice (some ⟨w6.heap.size, 0, none⟩) 1 1) (B := 0) (B' := 0) (n := L) (xs := T.P.flatMap pcs) (cs := [.int .i64 (a : Nat), .string x, .int .i64 k, .int .i64 n]) (.agg #[.int .i64 0, .string ⟨#[]⟩, .int .i64 0, .int .i64 0]) 40 Tryd.infoPlace rfl (by decide) (by rfl) _ _ 60 (by rfl) Tryd.underlying60 (by rfl) (by rfl) hrow'.out (own_one (B := 0) w6 #[.int .i64 (a : Nat), .string x, .int .i64 k, .int .i64 n] rfl (Nat.zero_le _)) (by intro u hu; simp at hu; rcases hu with rfl | rfl | rfl | rfl <;> rfl) (by have := hl'.out; omega) (by omega) (Nat.zero_le _) ?_
         intro v9 w9 hown9 hg9 hat9
         obtain ⟨h1, h2, h3, h4, h5, h6, h7, h8⟩ := hAll.out
         obtain ⟨A9, q9, rfl, -⟩ := own_read hown9
         have hwb : Went w5 (w6.alloc (.cells #[.int .i64 (a : Nat), .string x, .int .i64 k, .int .i64 n] 73)) := hb6.out.trans hal.out
         have hfin := Lib.hid (Tw.pushed (q := ⟨a, x, k, n⟩) hself.out hlow.out h1 h2 h3 h4 h5 h6 h7 h8 hb3.out hwb w9 (by rw [hL'.out]; exact hown9) hg9 hat9)
         have hLp : Lies w9 p 63 [mt, .slice A L c, ma] := (h1.below hwb hpl).turns (Turns.appendedS hg9) (fun e => by
           rcases h2.2 with ⟨e2, _⟩ | ⟨g', cap, cur, e2, _, hh, _⟩
           · rw [e2] at e; simp [Value.ownBlock] at e
           · rw [e2] at e
             have e3 : g' = p := by simpa [Value.ownBlock] using e
             subst e3
             have h1' := h1
             unfold Lies at h1'
             rw [hh] at h1'
             simp at h1')
         have c9 : w9.cell? ⟨p, 1, none⟩ = some (.slice A L c) := hLp.cell 1
         have f9 : w9.frozen? ⟨p, 1, none⟩ = false := hLp.free 1
         clear h1 h2 h3 h4 h5 h6 h7 h8 hown9 hg9 hat9 hwb hLp)))
  all_goals
    go_wp2
    go_ret2
    exact ⟨rfl, hfin.out⟩
end Go.Proofs.YtbkjmmeipbbaaaaDoor
