/- Package env: what a symbol means at the top. -/
import Derived.Test.YtbkjmmeipbbaaaaDoorEnvTopM
import Derived.WalkSpells
import Derived.Carry
namespace Go.Proofs.YtbkjmmeipbbaaaaDoor
open Go.ChangeShapes Go.WideShapes Go.ChangeAt Go.RowKit

theorem top_nil (x : ByteArray) (k n : Int) (w : World) :
    Calls Tryd.prog 9 #[.pointer none, .string x, .agg #[.int .i64 k, .int .i64 n]] w fun e w' => e = .returned (er 1) ∧ Went w w' := by
  rw [er_y (by omega)]
  go_enter Tryd.func9, Tryd.ntmps9
  go_wp2
  go_ret
  exact ⟨rfl, (Below.refl _ w).alloc (Nat.le_refl _) _⟩
set_option maxRecDepth 100000 in
theorem top_bad (p : Nat) (x : ByteArray) (hx : x.size ≤ 1000) (k n : Int) (w : World) (hc : ¬ (EM.sy x = true ∧ 0 ≤ k ∧ k ≤ 3)) :
    Calls Tryd.prog 9 #[.pointer (some ⟨p, 0, none⟩), .string x, .agg #[.int .i64 k, .int .i64 n]] w fun e w' => e = .returned (er 2) ∧ Went w w' := by
  rw [er_y (by omega)]
  have hS := Lib.hid (fun w => Symbol_any x (by omega) w)
  have hI := Lib.hid (fun w => isMeaning_any k n w)
  clear hx
  unfold EM.sy at hc
  have hW := Lib.hid ((Below.refl _ w).alloc (Nat.le_refl w.heap.size) (.cells #[.int .i64 k, .int .i64 n] 24))
  cases hs : LM.sym x.data.toList with
  | false =>
    rw [hs] at hS
    clear hc hs
    go_enter Tryd.func9, Tryd.ntmps9
    go_wp2_with (go_at_call 20; refine (hS.out _).mono ?_; rintro e w' ⟨rfl, rfl⟩)
    go_ret
    exact ⟨rfl, hW.out⟩
  | true =>
    rw [hs] at hS hc
    rw [decide_eq_false (show ¬ (0 ≤ k ∧ k ≤ 3) from fun h => hc ⟨rfl, h⟩)] at hI
    clear hc hs
    go_enter Tryd.func9, Tryd.ntmps9
    go_wp2_with (first
      | (go_at_call 20; refine (hS.out _).mono ?_; rintro e w' ⟨rfl, rfl⟩)
      | (go_at_call 21; refine (hI.out _).mono ?_; rintro e w5 ⟨rfl, hb⟩; have hb2 := Lib.hid (hW.out.trans (Below.mono hb (by simp)))))
    go_ret
    exact ⟨rfl, hb2.out⟩
set_option maxRecDepth 100000 in
theorem top_del (p : Nat) (D : Nat → Prop) (T : EM.Tb) (x : ByteArray) (hx : x.size ≤ 1000) (n : Int) (w : World) (h : Tw w p D T) (hs : EM.sy x = true) :
    Calls Tryd.prog 9 #[.pointer (some ⟨p, 0, none⟩), .string x, .agg #[.int .i64 0, .int .i64 n]] w fun e w' => e = .returned .nilIface ∧ Wrote p D { T with tp := EM.tset T.tp x 0 n, nt := T.nt + 1 } w w' := by
  have hS := Lib.hid (fun w => Symbol_any x (by omega) w)
  have hI := Lib.hid (fun w => isMeaning_any 0 n w)
  unfold EM.sy at hs
  rw [hs] at hS
  rw [decide_eq_true (show (0 : Int) ≤ 0 ∧ (0 : Int) ≤ 3 by omega)] at hI
  have hW := (Below.refl _ w).alloc (Nat.le_refl w.heap.size) (.cells #[.int .i64 0, .int .i64 n] 24)
  have h' := Lib.hid (h.below hW)
  have hM := Lib.hid (Lies.made w 24 #[.int .i64 0, .int .i64 n])
  have hW' := Lib.hid hW
  have hx' := Lib.hid hx
  have hlow := Lib.hid h.low
  clear h hs hW hx
  go_enter Tryd.func9, Tryd.ntmps9
  go_wp2_with (first
    | (go_at_call 20; refine (hS.out _).mono ?_; rintro e w' ⟨rfl, rfl⟩)
    | (go_at_call 21
       refine (hI.out _).mono ?_
       rintro e w5 ⟨rfl, hb⟩
       have hb2 := Lib.hid (hW'.out.trans (Below.mono hb (by simp)))
       have hL := hM.out.below hb (by simp)
       have l0 : w5.cell? ⟨w.heap.size, 0, none⟩ = some (.int .i64 0) := hL.cell 0
       obtain ⟨⟨mt, v, ma, nt, h1, h2, h3, h4, h5, h6, h7, h8⟩, h9, h10⟩ := h'.out.below hb
       have c0 : w5.cell? ⟨p, 0, none⟩ = some mt := h1.cell 0
       have hdel : ∀ ty, ∃ w', (Builtin.delete_ #[59, 9] ty #[mt, .string x]).run Tryd.prog w5 = .ok (.tuple #[]) w' ∧ Wrote p D { T with tp := EM.tset T.tp x 0 n, nt := T.nt + 1 } w w' := fun ty => by
         rcases h3 with ⟨rfl, e1, e2⟩ | ⟨q, rfl, _, hS3⟩
         · refine ⟨w5, Maps.drop_nil Tryd.keyString Tryd.underlying59 (key_of (by unfold maxLen; have := hx'.out; omega)) ty, D, ⟨⟨.map none, v, ma, nt, h1, h2, .inl ⟨rfl, e1, fun b => ?_⟩, by show nt ≤ T.nt + 1; omega, h5, h6, h7, h8⟩, h9, h10⟩, fun g hg => .inl hg, Turns.of_below hb2.out D⟩
           show (if b = x then (if (0 : Int) = 0 then none else some (0, n)) else T.tp b) = none
           split
           · rfl
           · exact e2 b
         · obtain ⟨w', hr, hT', hT2⟩ := TwT.drop (w := w5) (p := p) (q := q) (D := D) (T := T) ⟨v, ma, nt, h1, h2, hS3, h4, h5, fun r e => ⟨h7 r e, fun e2 => (h6 q rfl).2 (by rw [e, e2])⟩, (h6 q rfl).1, h8, h9, h10⟩ hx'.out (n := n) ty
           exact ⟨w', hr, D, hT'.tw, fun g hg => .inl hg, (Turns.of_below hb2.out D).then hT2 (fun g _ e => e ▸ (h6 q rfl).1)⟩
       have hdel' := Lib.hid hdel
       clear h1 h2 h3 h4 h5 h6 h7 h8 h9 h10 hb hL hdel)
    | (at_delete; refine wpList_delete_run rfl _ _ 59 9 rfl rfl rfl hdel'.out ?_; intro w8 hw8; have hw8' := Lib.hid hw8; clear hw8))
  go_ret
  exact ⟨rfl, hw8'.out⟩
set_option maxRecDepth 100000 in
set_option maxHeartbeats 2000000 in
theorem top_ok (p : Nat) (D : Nat → Prop) (T : EM.Tb) (x : ByteArray) (hx : x.size ≤ 1000) (k n : Int) (w : World) (h : Tw w p D T) (hs : EM.sy x = true) (hk : 1 ≤ k ∧ k ≤ 3) (hn : T.nt ≤ 1000000) :
    Calls Tryd.prog 9 #[.pointer (some ⟨p, 0, none⟩), .string x, .agg #[.int .i64 k, .int .i64 n]] w fun e w' => e = .returned .nilIface ∧ Wrote p D { T with tp := EM.tset T.tp x k n, nt := T.nt + 1 } w w' := by
  have hS := Lib.hid (fun w => Symbol_any x (by omega) w)
  have hI := Lib.hid (fun w => isMeaning_any k n w)
  have hC := Lib.hid (fun w => stringsClone_any x (by omega) w)
  unfold EM.sy at hs
  rw [hs] at hS
  rw [decide_eq_true (show 0 ≤ k ∧ k ≤ 3 by omega)] at hI
  have hW := (Below.refl _ w).alloc (Nat.le_refl w.heap.size) (.cells #[.int .i64 k, .int .i64 n] 24)
  have h' := Lib.hid (h.below hW)
  have hM := Lib.hid (Lies.made w 24 #[.int .i64 k, .int .i64 n])
  have hW' := Lib.hid hW
  have hx' := Lib.hid hx
  have hn' := Lib.hid hn
  have hk0 : (k == 0) = false := by simp; omega
  have hkn := Lib.hid (show k ≠ 0 by omega)
  have hlow := Lib.hid h.low
  have hbq : ∀ (w : World) (r : Option Nat), (binOp .eql 59 (.map r) (.map none)).run Tryd.prog w = .ok (.bool r.isNone) w := fun w r => run_eql_map_nil w _ _ _ r Tryd.underlying59
  clear h hs hW hx hk hn
  go_enter Tryd.func9, Tryd.ntmps9
  go_upto_if 34 with (first
    | (go_at_call 20; refine (hS.out _).mono ?_; rintro e w' ⟨rfl, rfl⟩)
    | (go_at_call 21
       refine (hI.out _).mono ?_
       rintro e w2 ⟨rfl, hb⟩
       have hb2 := Lib.hid (hW'.out.trans (Below.mono hb (by simp)))
       have hL := hM.out.below hb (by simp)
       have l0 : w2.cell? ⟨w.heap.size, 0, none⟩ = some (.int .i64 k) := hL.cell 0
       have hL2 := Lib.hid hL
       obtain ⟨⟨mt, v, ma, nt, h1, h2, h3, h4, h5, h6, h7, h8⟩, h9, h10⟩ := h'.out.below hb
       obtain ⟨r, rfl⟩ : ∃ r, mt = .map r := by
         rcases h3 with ⟨e, _⟩ | ⟨q, e, _⟩
         · exact ⟨none, e⟩
         · exact ⟨some q, e⟩
       have c0 : w2.cell? ⟨p, 0, none⟩ = some (.map r) := h1.cell 0
       have f0 : w2.frozen? ⟨p, 0, none⟩ = false := h1.free 0
       have hp2 := h1.lt
       have hAll := Lib.hid (And.intro h1 (And.intro h2 (And.intro h3 (And.intro h4 (And.intro h5 (And.intro h6 (And.intro h7 (And.intro h8 (And.intro h9 h10)))))))))
       clear h1 h2 h3 h4 h5 h6 h7 h8 h9 h10 hb hL))
  go_cut [] from 35 to 39 (fun wx => TopMid p D T w wx ∧ Lies wx w.heap.size 24 [.int .i64 k, .int .i64 n])
  case first =>
    obtain ⟨h1, h2, h3, h4, h5, h6, h7, h8, h9, h10⟩ := hAll.out
    cases r with
    | none =>
      rcases h3 with ⟨-, e1, e2⟩ | ⟨q, e, _⟩
      · have hfin := Lib.hid (TopMid.made hb2.out h1 h2 e2 h5 h7 h8 h9 hlow.out)
        have hL3 := Lib.hid ((hL2.out.far (p := ⟨p, 0, none⟩) (fun e => by have := hlow.out p h9; have e' : w.heap.size = p := e; omega) (.map (some w2.heap.size))).alloc (.map #[] 0))
        clear h1 h2 h4 e1 e2 h5 h6 h7 h8 h9 h10 hAll
        have hmm := @run_makeMap Tryd.prog
        go_wp2_with fail
        go_meet
        case rel => exact ⟨hfin.out, hL3.out⟩
      · simp at e
    | some q =>
      rcases h3 with ⟨e, _⟩ | ⟨q', e, -, hS3⟩
      · simp at e
      · obtain rfl : q = q' := by simpa using e
        have hfin := Lib.hid (TopMid.had (p := p) (D := D) (T := T) hb2.out (q := q) ⟨v, ma, nt, h1, h2, hS3, h4, h5, fun r e => ⟨h7 r e, fun e2 => (h6 q rfl).2 (by rw [e, e2])⟩, (h6 q rfl).1, h8, h9, h10⟩)
        clear h1 h2 h4 hS3 h5 h6 h7 h8 h9 h10 hAll e
        go_wp2_with fail
        go_meet
        case rel => exact ⟨hfin.out, hL2.out⟩
  case rest =>
  obtain ⟨⟨q, D', hA, hD', hT⟩, hL9⟩ := hcut
  obtain ⟨c8, hp8⟩ := hA.cell
  have k8 : wc.cell? ⟨w.heap.size, 0, none⟩ = some (.int .i64 k) := hL9.cell 0
  have k9 : wc.cell? ⟨w.heap.size, 1, none⟩ = some (.int .i64 n) := hL9.cell 1
  have hA' := Lib.hid hA
  have hT' := Lib.hid hT
  have hD2 := Lib.hid hD'
  have hL10 := Lib.hid hL9
  clear hA hT hD' hL9 hAll c0 f0 hp2 hbq l0 hL2 hb2 h'
  go_wp2_with fail
  go_region_law
    ((first
      | (rw [if_pos (by rfl)]
         go_simp
         go_at_call 22
         refine (hC.out _).mono ?_
         rintro e w6 ⟨rfl, hb⟩
         have hb6 := Went.of_drew hb
         have hA6 := hA'.out.below hb6
         have c6 := hA6.cell.1
         have hL6 := hL10.out.below hb6 hL10.out.lt
         have k6 : w6.cell? ⟨w.heap.size, 0, none⟩ = some (.int .i64 k) := hL6.cell 0
         have k7 : w6.cell? ⟨w.heap.size, 1, none⟩ = some (.int .i64 n) := hL6.cell 1
         obtain ⟨w8, hput, hA8, hT8⟩ := hA6.put hn'.out (s := x) hx'.out (k := k) (n := n) hkn.out
         have hfin : Wrote p D { T with tp := EM.tset T.tp x k n, nt := T.nt + 1 } w w8 := ⟨D', hA8.tw, hD2.out, (hT'.out.then (Turns.of_below hb6 D) (fun _ _ h => h)).then hT8 (fun g hg e => by
           subst e
           obtain ⟨v, ma, nt, -, -, -, -, -, -, hq, -⟩ := hA6
           rcases hD2.out _ hq with h | h
           · exact h
           · omega)⟩
         have hfin' := Lib.hid hfin
         clear hb hb6 hA6 hL6 hA8 hT8 hfin)))
  all_goals
    go_wp2_with fail
    go_ret
    exact ⟨rfl, hfin'.out⟩

theorem top_any (p : Nat) (D : Nat → Prop) (T : EM.Tb) (x : ByteArray) (hx : x.size ≤ 1000) (k n : Int) (w : World) (h : Tw w p D T) (hn : T.nt ≤ 1000000) :
    Calls Tryd.prog 9 #[.pointer (some ⟨p, 0, none⟩), .string x, .agg #[.int .i64 k, .int .i64 n]] w fun e w' => (∃ j, e = .returned (er j)) ∧ Wrote p D (EM.top T x k n) w w' := by
  unfold EM.top
  by_cases hc : EM.sy x = true ∧ 0 ≤ k ∧ k ≤ 3
  · rw [if_pos hc]
    by_cases h0 : k = 0
    · subst h0
      exact (top_del p D T x hx n w h hc.1).mono fun e w' ⟨e1, e2⟩ => ⟨⟨0, e1⟩, e2⟩
    · exact (top_ok p D T x hx k n w h hc.1 (by omega) hn).mono fun e w' ⟨e1, e2⟩ => ⟨⟨0, e1⟩, e2⟩
  · rw [if_neg hc]
    exact (top_bad p x hx k n w hc).mono fun e w' ⟨e1, e2⟩ => ⟨⟨2, e1⟩, Wrote.same h e2⟩
end Go.Proofs.YtbkjmmeipbbaaaaDoor
