/- The document's own table: Top and Extend. -/
import Derived.Test.YtbkjmmeipbbaaaaDoorEnvRefM
namespace Go.Proofs.YtbkjmmeipbbaaaaDoor
open Go.ChangeShapes Go.WideShapes Go.ChangeAt Go.RowKit

theorem Tryd.infoRPlace : (Tryd.prog.info? 70).map (fun i => (i.zero, i.size, i.bytes)) = some (some (.agg #[.int .i64 0, .string ⟨#[]⟩, .int .i64 0, .int .i64 0]), 4, 40) := by kernel_rfl
theorem Tryd.infoRAlias : (Tryd.prog.info? 65).map (fun i => (i.zero, i.size, i.bytes)) = some (some (.agg #[.string ⟨#[]⟩, .string ⟨#[]⟩, .int .i64 0]), 3, 40) := by kernel_rfl

set_option maxRecDepth 100000 in
theorem rtop_bad (r : Nat) (x : ByteArray) (hx : x.size ≤ 1000) (k n : Int) (w : World) (hc : ¬ (EM.sy x = true ∧ 0 ≤ k ∧ k ≤ 3)) :
    Calls Tryd.prog 10 #[.pointer (some ⟨r, 0, none⟩), .string x, .agg #[.int .i64 k, .int .i64 n]] w fun e w' => e = .returned (.int .i64 2) ∧ Went w w' := by
  have hS := Lib.hid (fun w => rSymbol_any x (by omega) w)
  clear hx
  unfold EM.sy at hc
  have hW := Lib.hid ((Below.refl _ w).alloc (Nat.le_refl w.heap.size) (.cells #[.int .i64 k, .int .i64 n] 24))
  cases hs : LM.sym x.data.toList with
  | false =>
    rw [hs] at hS
    clear hc hs
    go_enter Tryd.func10, Tryd.ntmps10
    go_wp2_with (go_at_call 23; refine (hS.out _).mono ?_; rintro e w' ⟨rfl, rfl⟩)
    go_ret
    exact ⟨rfl, hW.out⟩
  | true =>
    rw [hs] at hS hc
    have hk : k < 0 ∨ 3 < k := by
      apply Decidable.byContradiction
      intro h
      exact hc ⟨rfl, by omega, by omega⟩
    clear hc hs
    by_cases h0 : k < 0
    · clear hk
      go_enter Tryd.func10, Tryd.ntmps10
      go_wp2_with (go_at_call 23; refine (hS.out _).mono ?_; rintro e w' ⟨rfl, rfl⟩)
      go_ret
      exact ⟨rfl, hW.out⟩
    · have h3 : 3 < k := by omega
      clear hk
      go_enter Tryd.func10, Tryd.ntmps10
      go_wp2_with (go_at_call 23; refine (hS.out _).mono ?_; rintro e w' ⟨rfl, rfl⟩)
      go_ret
      exact ⟨rfl, hW.out⟩
set_option maxRecDepth 100000 in
set_option maxHeartbeats 2000000 in
theorem rtop_ok (r np nt : Nat) (E : Nat → Prop) (A : List ER.Al) (x : ByteArray) (hx : x.size ≤ 1000) (k n : Int) (w : World) (h : Rw w r E np nt A) (hs : EM.sy x = true) (hk : 0 ≤ k ∧ k ≤ 3) (hn : nt ≤ 1000000) :
    Calls Tryd.prog 10 #[.pointer (some ⟨r, 0, none⟩), .string x, .agg #[.int .i64 k, .int .i64 n]] w fun e w' => e = .returned (.int .i64 0) ∧ RWrote r E np (nt + 1) A w w' := by
  have hS := Lib.hid (fun w => rSymbol_any x (by omega) w)
  unfold EM.sy at hs
  rw [hs] at hS
  obtain ⟨n', hn'⟩ : ∃ n', (if k = 0 then 0 else n) = n' := ⟨_, rfl⟩
  -- the world in which the row is pushed: the box holds k and n'
  have hlowE : ∀ g, E g → g < w.heap.size := by
    obtain ⟨_, _, _, _, _, -, -, -, -, -, -, -, -, h9⟩ := h
    exact h9
  have hbW : Below w.heap.size w (w.alloc (.cells #[.int .i64 k, .int .i64 n'] 24)) := (Below.refl _ w).alloc (Nat.le_refl w.heap.size) _
  obtain ⟨vP, vA, vT, csP, csT, h1, h2, h3, h4, h5, h6, h7, h8, h9⟩ := h.below hbW
  obtain ⟨B, c, rfl, -⟩ := own_read h4
  have c2 : (w.alloc (.cells #[.int .i64 k, .int .i64 n'] 24)).cell? ⟨r, 2, none⟩ = some (.slice B nt c) := h1.cell 2
  have f2 : (w.alloc (.cells #[.int .i64 k, .int .i64 n'] 24)).frozen? ⟨r, 2, none⟩ = false := h1.free 2
  have hrw : r < w.heap.size := hlowE r h8
  have k0 : (w.alloc (.cells #[.int .i64 k, .int .i64 n'] 24)).cell? ⟨w.heap.size, 0, none⟩ = some (.int .i64 k) := (Lies.made w 24 #[.int .i64 k, .int .i64 n']).cell 0
  have k1 : (w.alloc (.cells #[.int .i64 k, .int .i64 n'] 24)).cell? ⟨w.heap.size, 1, none⟩ = some (.int .i64 n') := (Lies.made w 24 #[.int .i64 k, .int .i64 n']).cell 1
  have hAll := Lib.hid (And.intro h1 (And.intro h2 (And.intro h3 (And.intro h4 (And.intro h5 (And.intro h6 (And.intro h7 (And.intro h8 h9))))))))
  have hlow' := Lib.hid hlowE
  have hbW' := Lib.hid hbW
  have hnn := Lib.hid hn
  have hcw : w.cell? ⟨r, 2, none⟩ = some (.slice B nt c) := by
    have := Below.cell hbW (p := ⟨r, 2, none⟩) hrw
    rw [← this]; exact c2
  clear h h1 h2 h3 h4 h5 h6 h7 h8 h9 hx hs hlowE hbW hn
  have k30 : ¬ k < 0 := by omega
  have k33 : ¬ 3 < k := by omega
  by_cases h0 : k = 0
  · rw [if_pos h0] at hn'
    subst hn'
    subst h0
    clear hk k30 k33
    go_enter Tryd.func10, Tryd.ntmps10
    go_wp2_with (go_at_call 23; refine (hS.out _).mono ?_; rintro e w' ⟨rfl, rfl⟩)
    have hr2 : r < (w.alloc (.cells #[.int .i64 0, .int .i64 0] 24)).heap.size := by simp; omega
    have hws2 : w.heap.size < (w.alloc (.cells #[.int .i64 0, .int .i64 0] 24)).heap.size := by simp
    generalize w.alloc (.cells #[.int .i64 0, .int .i64 0] 24) = W2 at *
    go_region_law
      ((refine step_append_own (w := (W2.alloc (.cells #[.int .i64 0, .string x, .int .i64 0, .int .i64 0] 70)).drew) (v := .slice B nt c) (x := .slice (some ⟨W2.heap.size, 0, none⟩) 1 1) (B := 0) (B' := 0) (n := nt) (xs := csT) (cs := [.int .i64 0, .string x, .int .i64 0, .int .i64 0]) (.agg #[.int .i64 0, .string ⟨#[]⟩, .int .i64 0, .int .i64 0]) 40 Tryd.infoRPlace rfl (by decide) (by rfl) _ _ 31 (by rfl) Tryd.underlying31 (by rfl) (by rfl) (own_turns hAll.out.2.2.2.1 (((Turns.refl (fun _ => False) W2).alloc _).drew) (fun _ _ h => h)) (own_turns (own_one (B := 0) W2 #[.int .i64 0, .string x, .int .i64 0, .int .i64 0] rfl (Nat.zero_le _)) ((Turns.refl (fun _ => False) _).drew) (fun _ _ h => h)) (by intro u hu; simp at hu; rcases hu with rfl | rfl | rfl | rfl <;> rfl) (by have := hnn.out; omega) (by omega) (Nat.zero_le _) ?_
        intro v9 w9 hown9 hg9 hat9
        obtain ⟨h1, h2, h3, h4, h5, h6, h7, h8, h9⟩ := hAll.out
        obtain ⟨A9, q9, rfl, -⟩ := own_read hown9
        have hal := (Below.refl _ W2).alloc (Nat.le_refl W2.heap.size) (.cells #[.int .i64 0, .string x, .int .i64 0, .int .i64 0] 70)
        have hwb : Went W2 ((W2.alloc (.cells #[.int .i64 0, .string x, .int .i64 0, .int .i64 0] 70)).drew) := ⟨hal.os, hal.tape, hal.output, hal.size, hal.block⟩
        have hfin := Lib.hid (Rw.pushT hlow'.out h1 h2 h3 h4 h5 h6 h7 h8 hbW'.out hwb w9 hown9 hg9 hat9)
        have hLr := (h1.below hwb h1.lt).turns (Turns.appendedS hg9) (fun e => (h7 r e).2 rfl)
        have c9 : w9.cell? ⟨r, 2, none⟩ = some (.slice B nt c) := hLr.cell 2
        have f9 : w9.frozen? ⟨r, 2, none⟩ = false := hLr.free 2
        clear h1 h2 h3 h4 h5 h6 h7 h8 h9 hown9 hg9 hat9 hwb hLr hal))
    all_goals
      go_wp2
      go_ret
      exact ⟨rfl, hfin.out⟩
  · rw [if_neg h0] at hn'
    subst hn'
    have hk0 : (k == 0) = false := by simpa using h0
    clear hk h0
    go_enter Tryd.func10, Tryd.ntmps10
    go_wp2_with (go_at_call 23; refine (hS.out _).mono ?_; rintro e w' ⟨rfl, rfl⟩)
    have hr2 : r < (w.alloc (.cells #[.int .i64 k, .int .i64 n] 24)).heap.size := by simp; omega
    have hws2 : w.heap.size < (w.alloc (.cells #[.int .i64 k, .int .i64 n] 24)).heap.size := by simp
    generalize w.alloc (.cells #[.int .i64 k, .int .i64 n] 24) = W2 at *
    go_region_law
      ((refine step_append_own (w := (W2.alloc (.cells #[.int .i64 0, .string x, .int .i64 k, .int .i64 n] 70)).drew) (v := .slice B nt c) (x := .slice (some ⟨W2.heap.size, 0, none⟩) 1 1) (B := 0) (B' := 0) (n := nt) (xs := csT) (cs := [.int .i64 0, .string x, .int .i64 k, .int .i64 n]) (.agg #[.int .i64 0, .string ⟨#[]⟩, .int .i64 0, .int .i64 0]) 40 Tryd.infoRPlace rfl (by decide) (by rfl) _ _ 31 (by rfl) Tryd.underlying31 (by rfl) (by rfl) (own_turns hAll.out.2.2.2.1 (((Turns.refl (fun _ => False) W2).alloc _).drew) (fun _ _ h => h)) (own_turns (own_one (B := 0) W2 #[.int .i64 0, .string x, .int .i64 k, .int .i64 n] rfl (Nat.zero_le _)) ((Turns.refl (fun _ => False) _).drew) (fun _ _ h => h)) (by intro u hu; simp at hu; rcases hu with rfl | rfl | rfl | rfl <;> rfl) (by have := hnn.out; omega) (by omega) (Nat.zero_le _) ?_
        intro v9 w9 hown9 hg9 hat9
        obtain ⟨h1, h2, h3, h4, h5, h6, h7, h8, h9⟩ := hAll.out
        obtain ⟨A9, q9, rfl, -⟩ := own_read hown9
        have hal := (Below.refl _ W2).alloc (Nat.le_refl W2.heap.size) (.cells #[.int .i64 0, .string x, .int .i64 k, .int .i64 n] 70)
        have hwb : Went W2 ((W2.alloc (.cells #[.int .i64 0, .string x, .int .i64 k, .int .i64 n] 70)).drew) := ⟨hal.os, hal.tape, hal.output, hal.size, hal.block⟩
        have hfin := Lib.hid (Rw.pushT hlow'.out h1 h2 h3 h4 h5 h6 h7 h8 hbW'.out hwb w9 hown9 hg9 hat9)
        have hLr := (h1.below hwb h1.lt).turns (Turns.appendedS hg9) (fun e => (h7 r e).2 rfl)
        have c9 : w9.cell? ⟨r, 2, none⟩ = some (.slice B nt c) := hLr.cell 2
        have f9 : w9.frozen? ⟨r, 2, none⟩ = false := hLr.free 2
        clear h1 h2 h3 h4 h5 h6 h7 h8 h9 hown9 hg9 hat9 hwb hLr hal))
    all_goals
      go_wp2
      go_ret
      exact ⟨rfl, hfin.out⟩

theorem rtop_any (r np nt : Nat) (E : Nat → Prop) (A : List ER.Al) (x : ByteArray) (hx : x.size ≤ 1000) (k n : Int) (w : World) (h : Rw w r E np nt A) (hn : nt ≤ 1000000) :
    Calls Tryd.prog 10 #[.pointer (some ⟨r, 0, none⟩), .string x, .agg #[.int .i64 k, .int .i64 n]] w fun e w' => (∃ v : Int, e = .returned (.int .i64 v)) ∧ ∃ nt', nt' ≤ nt + 1 ∧ RWrote r E np nt' A w w' := by
  by_cases hc : EM.sy x = true ∧ 0 ≤ k ∧ k ≤ 3
  · exact (rtop_ok r np nt E A x hx k n w h hc.1 hc.2 hn).mono fun e w' ⟨e1, e2⟩ => ⟨⟨0, e1⟩, _, Nat.le_refl _, e2⟩
  · exact (rtop_bad r x hx k n w hc).mono fun e w' ⟨e1, e2⟩ => ⟨⟨2, e1⟩, nt, by omega, RWrote.same h e2⟩

set_option maxRecDepth 100000 in
set_option maxHeartbeats 2000000 in
theorem rext_any (r np nt : Nat) (E : Nat → Prop) (A : List ER.Al) (hl : A.length ≤ 100000) (a : Int) (x : ByteArray) (hx : x.size ≤ 1000) (k n : Int) (w : World) (h : Rw w r E np nt A) (hn : np ≤ 65536) :
    Calls Tryd.prog 12 #[.pointer (some ⟨r, 0, none⟩), .int .i64 a, .string x, .agg #[.int .i64 k, .int .i64 n]] w fun e w' => (∃ b c : Int, e = .returned (.tuple #[.int .i64 b, .int .i64 c])) ∧ ∃ np', np' ≤ 65536 ∧ RWrote r E np' nt A w w' := by
  have hlowE : ∀ g, E g → g < w.heap.size := by
    obtain ⟨_, _, _, _, _, -, -, -, -, -, -, -, -, h9⟩ := h
    exact h9
  have hbW : Below w.heap.size w (w.alloc (.cells #[.int .i64 k, .int .i64 n] 24)) := (Below.refl _ w).alloc (Nat.le_refl w.heap.size) _
  have h2w := h.below hbW
  have hPl := Lib.hid (rplace_any h2w a)
  have hNm := Lib.hid (rname_any h2w hl x hx)
  obtain ⟨vP, vA, vT, csP, csT, h1, h2, h3, h4, h5, h6, h7, h8, h9⟩ := h2w
  obtain ⟨B, c, rfl, -⟩ := own_read h2
  have hrw : r < w.heap.size := hlowE r h8
  have c0 : (w.alloc (.cells #[.int .i64 k, .int .i64 n] 24)).cell? ⟨r, 0, none⟩ = some (.slice B np c) := h1.cell 0
  have f0 : (w.alloc (.cells #[.int .i64 k, .int .i64 n] 24)).frozen? ⟨r, 0, none⟩ = false := h1.free 0
  have k0 : (w.alloc (.cells #[.int .i64 k, .int .i64 n] 24)).cell? ⟨w.heap.size, 0, none⟩ = some (.int .i64 k) := (Lies.made w 24 #[.int .i64 k, .int .i64 n]).cell 0
  have k1 : (w.alloc (.cells #[.int .i64 k, .int .i64 n] 24)).cell? ⟨w.heap.size, 1, none⟩ = some (.int .i64 n) := (Lies.made w 24 #[.int .i64 k, .int .i64 n]).cell 1
  have hcw : w.cell? ⟨r, 0, none⟩ = some (.slice B np c) := by
    have := Below.cell hbW (p := ⟨r, 0, none⟩) hrw
    rw [← this]; exact c0
  have hAll := Lib.hid (And.intro h1 (And.intro h2 (And.intro h3 (And.intro h4 (And.intro h5 (And.intro h6 (And.intro h7 (And.intro h8 h9))))))))
  have hlow' := Lib.hid hlowE
  have hbW' := Lib.hid hbW
  have hsame := Lib.hid (RWrote.same h hbW)
  have hn0 := Lib.hid hn
  clear h h1 h2 h3 h4 h5 h6 h7 h8 h9 hx hlowE hbW hn hl
  obtain ⟨bp, hbp⟩ : ∃ bp, decide (0 ≤ a ∧ a ≤ np) = bp := ⟨_, rfl⟩
  obtain ⟨bn, hbn⟩ : ∃ bn, rnm A x = bn := ⟨_, rfl⟩
  rw [hbp] at hPl
  rw [hbn] at hNm
  clear hbp hbn
  cases bp with
  | false =>
    go_enter Tryd.func12, Tryd.ntmps12
    go_wp2_with (first
      | (go_at_call 25; refine hPl.out.mono ?_; rintro e w' ⟨rfl, rfl⟩)
      | (go_at_call 26; refine hNm.out.mono ?_; rintro e w' ⟨rfl, rfl⟩))
    go_ret2
    exact ⟨⟨_, _, rfl⟩, np, hn0.out, hsame.out⟩
  | true =>
    cases bn with
    | false =>
      go_enter Tryd.func12, Tryd.ntmps12
      go_wp2_with (first
        | (go_at_call 25; refine hPl.out.mono ?_; rintro e w' ⟨rfl, rfl⟩)
        | (go_at_call 26; refine hNm.out.mono ?_; rintro e w' ⟨rfl, rfl⟩))
      go_ret2
      exact ⟨⟨_, _, rfl⟩, np, hn0.out, hsame.out⟩
    | true =>
      by_cases k1' : k < 1
      · skip
        go_enter Tryd.func12, Tryd.ntmps12
        go_wp2_with (first
          | (go_at_call 25; refine hPl.out.mono ?_; rintro e w' ⟨rfl, rfl⟩)
          | (go_at_call 26; refine hNm.out.mono ?_; rintro e w' ⟨rfl, rfl⟩))
        go_ret2
        exact ⟨⟨_, _, rfl⟩, np, hn0.out, hsame.out⟩
      · by_cases k3' : 3 < k
        · skip
          go_enter Tryd.func12, Tryd.ntmps12
          go_wp2_with (first
            | (go_at_call 25; refine hPl.out.mono ?_; rintro e w' ⟨rfl, rfl⟩)
            | (go_at_call 26; refine hNm.out.mono ?_; rintro e w' ⟨rfl, rfl⟩))
          go_ret2
          exact ⟨⟨_, _, rfl⟩, np, hn0.out, hsame.out⟩
        · by_cases hfull : 65536 ≤ np
          · have hq : decide ((65536 : Int) ≤ (np : Int)) = true := decide_eq_true (by omega)
            go_enter Tryd.func12, Tryd.ntmps12
            go_wp2_with (first
              | (go_at_call 25; refine hPl.out.mono ?_; rintro e w' ⟨rfl, rfl⟩)
              | (go_at_call 26; refine hNm.out.mono ?_; rintro e w' ⟨rfl, rfl⟩))
            go_ret2
            exact ⟨⟨_, _, rfl⟩, np, hn0.out, hsame.out⟩
          · have hq : decide ((65536 : Int) ≤ (np : Int)) = false := decide_eq_false (by omega)
            have hnn := Lib.hid (show np ≤ 65536 by omega)
            have hnp := Lib.hid (show np + 1 ≤ 65536 by omega)
            clear hfull
            go_enter Tryd.func12, Tryd.ntmps12
            go_wp2_with (first
              | (go_at_call 25; refine hPl.out.mono ?_; rintro e w' ⟨rfl, rfl⟩)
              | (go_at_call 26; refine hNm.out.mono ?_; rintro e w' ⟨rfl, rfl⟩))
            have hr2 : r < (w.alloc (.cells #[.int .i64 k, .int .i64 n] 24)).heap.size := by simp; omega
            have hws2 : w.heap.size < (w.alloc (.cells #[.int .i64 k, .int .i64 n] 24)).heap.size := by simp
            generalize w.alloc (.cells #[.int .i64 k, .int .i64 n] 24) = W2 at *
            go_region_law
              ((refine step_append_own (w := (W2.alloc (.cells #[.int .i64 a, .string x, .int .i64 k, .int .i64 n] 70)).drew) (v := .slice B np c) (x := .slice (some ⟨W2.heap.size, 0, none⟩) 1 1) (B := 0) (B' := 0) (n := np) (xs := csP) (cs := [.int .i64 a, .string x, .int .i64 k, .int .i64 n]) (.agg #[.int .i64 0, .string ⟨#[]⟩, .int .i64 0, .int .i64 0]) 40 Tryd.infoRPlace rfl (by decide) (by rfl) _ _ 31 (by rfl) Tryd.underlying31 (by rfl) (by rfl) (own_turns hAll.out.2.1 (((Turns.refl (fun _ => False) W2).alloc _).drew) (fun _ _ h => h)) (own_turns (own_one (B := 0) W2 #[.int .i64 a, .string x, .int .i64 k, .int .i64 n] rfl (Nat.zero_le _)) ((Turns.refl (fun _ => False) _).drew) (fun _ _ h => h)) (by intro u hu; simp at hu; rcases hu with rfl | rfl | rfl | rfl <;> rfl) (by have := hnn.out; omega) (by omega) (Nat.zero_le _) ?_
                intro v9 w9 hown9 hg9 hat9
                obtain ⟨h1, h2, h3, h4, h5, h6, h7, h8, h9⟩ := hAll.out
                obtain ⟨A9, q9, rfl, -⟩ := own_read hown9
                have hal := (Below.refl _ W2).alloc (Nat.le_refl W2.heap.size) (.cells #[.int .i64 a, .string x, .int .i64 k, .int .i64 n] 70)
                have hwb : Went W2 ((W2.alloc (.cells #[.int .i64 a, .string x, .int .i64 k, .int .i64 n] 70)).drew) := ⟨hal.os, hal.tape, hal.output, hal.size, hal.block⟩
                have hfin := Lib.hid (Rw.pushP hlow'.out h1 h2 h3 h4 h5 h6 h7 h8 hbW'.out hwb w9 hown9 hg9 hat9)
                have hLr := (h1.below hwb h1.lt).turns (Turns.appendedS hg9) (fun e => (h5 r e).2.2.2 rfl)
                have c9 : w9.cell? ⟨r, 0, none⟩ = some (.slice B np c) := hLr.cell 0
                have f9 : w9.frozen? ⟨r, 0, none⟩ = false := hLr.free 0
                clear h1 h2 h3 h4 h5 h6 h7 h8 h9 hown9 hg9 hat9 hwb hLr hal))
            all_goals
              go_wp2
              go_ret2
              exact ⟨⟨_, _, rfl⟩, np + 1, hnp.out, hfin.out⟩
end Go.Proofs.YtbkjmmeipbbaaaaDoor
