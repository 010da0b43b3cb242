/- What the document's own answer for layer 7 is on a whole text. -/
import Derived.Test.YtmnadgkneaiccaaDoorLexRefH
import Derived.Test.YtmnadgkneaiccaaDoorLexAllB
namespace Go.Proofs.YtmnadgkneaiccaaDoor
open Go.ChangeShapes Go.WideShapes Go.ChangeAt Go.RowKit

theorem rAll_long (s : ByteArray) (hs : 16384 < s.size) (w : World) :
    Calls Tryd.prog 14 #[.string s] w fun e w' => e = .returned (.tuple #[.slice none 0 0, .agg #[.int .i64 14, .int .i64 0, .int .i64 0]]) ∧ Went w w' := by
  go_enter Tryd.func14, Tryd.ntmps14
  go_wp2
  exact bodyPost_ret (v := .tuple #[.slice none 0 0, .agg #[.int .i64 14, .int .i64 0, .int .i64 0]]) (by simp [results, Tryd.results14, go_sem]) rfl ⟨rfl, (Below.refl _ _).alloc (Nat.le_refl _) _⟩
theorem own_three (w : World) (o1 o2 : Obj) (t : TypeId) (cs : Array Value) (hs : cs.size = 6 := by rfl) : (((w.alloc o1).alloc o2).alloc (.cells cs t)).ownsRow (w.heap.size + 1 + 1) t 6 (.slice (some ⟨w.heap.size + 1 + 1, 0, none⟩) 1 1) 1 cs.toList := by
  have := own_one (e := t) (sz := 6) (B := w.heap.size + 1 + 1) ((w.alloc o1).alloc o2) cs hs (by simp)
  rwa [show ((w.alloc o1).alloc o2).heap.size = w.heap.size + 1 + 1 by simp] at this
theorem fin0 {w : World} {g : Nat} {t : TypeId} {a b c : Value} (h : Lies w g t [a, b, c]) (x y z : Value) (o1 o2 : Obj) : (((((w.setCell ⟨g, 0, none⟩ x).setCell ⟨g, 1, none⟩ y).setCell ⟨g, 2, none⟩ z).alloc o1).alloc o2).cell? ⟨g, 0, none⟩ = some x := (((((h.stored 0 x).stored 1 y).stored 2 z).alloc o1).alloc o2).cell 0
theorem fin1 {w : World} {g : Nat} {t : TypeId} {a b c : Value} (h : Lies w g t [a, b, c]) (x y z : Value) (o1 o2 : Obj) : (((((w.setCell ⟨g, 0, none⟩ x).setCell ⟨g, 1, none⟩ y).setCell ⟨g, 2, none⟩ z).alloc o1).alloc o2).cell? ⟨g, 1, none⟩ = some y := (((((h.stored 0 x).stored 1 y).stored 2 z).alloc o1).alloc o2).cell 1
theorem fin2 {w : World} {g : Nat} {t : TypeId} {a b c : Value} (h : Lies w g t [a, b, c]) (x y z : Value) (o1 o2 : Obj) : (((((w.setCell ⟨g, 0, none⟩ x).setCell ⟨g, 1, none⟩ y).setCell ⟨g, 2, none⟩ z).alloc o1).alloc o2).cell? ⟨g, 2, none⟩ = some z := (((((h.stored 0 x).stored 1 y).stored 2 z).alloc o1).alloc o2).cell 2
theorem fin_below {B : Nat} {a w : World} {g : Nat} (h : Below B a w) (hB : B ≤ a.heap.size) (hg : B ≤ g) (x y z : Value) (o1 o2 : Obj) : Below B a (((((w.setCell ⟨g, 0, none⟩ x).setCell ⟨g, 1, none⟩ y).setCell ⟨g, 2, none⟩ z).alloc o1).alloc o2).drew := by
  have h3 := ((h.setCell (p := ⟨g, 0, none⟩) hg x).setCell (p := ⟨g, 1, none⟩) hg y).setCell (p := ⟨g, 2, none⟩) hg z
  have h4 := h3.alloc (Nat.le_trans hB h3.size) o1
  exact below_drewN (h4.alloc (Nat.le_trans hB h4.size) o2) 1
theorem rnv_yes {X : LM.Nx} {a : Nat} (h : X.t.e = 0) : rnv X a = .tuple #[.agg #[.int .i64 X.t.k, .int .i64 X.t.n, .string ⟨X.t.s.toArray⟩, .int .i64 X.line, .int .i64 X.col, .int .i64 (a + X.len : Nat)], .agg #[.int .i64 0, .int .i64 0, .int .i64 0]] := by unfold rnv; rw [if_pos h]
theorem rnv_no {X : LM.Nx} {a : Nat} (h : X.t.e ≠ 0) : rnv X a = .tuple #[.agg #[.int .i64 0, .int .i64 0, .string ⟨#[]⟩, .int .i64 0, .int .i64 0, .int .i64 0], .agg #[.int .i64 X.t.e, .int .i64 X.line, .int .i64 X.col]] := by unfold rnv; rw [if_neg h]

set_option maxRecDepth 100000 in
set_option maxHeartbeats 4000000 in
theorem rAll_any (s : ByteArray) (hs : s.size ≤ 16384) (w : World) :
    Calls Tryd.prog 14 #[.string s] w fun e w' => ∃ v', e = .returned (.tuple #[v', .agg #[.int .i64 (LM.alls (s.size + 1) s.data.toList 0 1 1).2.1, .int .i64 (LM.alls (s.size + 1) s.data.toList 0 1 1).2.2.1, .int .i64 (LM.alls (s.size + 1) s.data.toList 0 1 1).2.2.2]]) ∧ OwnT w' w.heap.size v' (LM.alls (s.size + 1) s.data.toList 0 1 1).1 ∧ Went w w' := by
  obtain ⟨R, hR⟩ : ∃ R, LM.alls (s.size + 1) s.data.toList 0 1 1 = R := ⟨_, rfl⟩
  have h0 : Hid (LM.glue [] (LM.alls (s.size + 1) (s.data.toList.drop 0) 0 1 1) = R) := by
    show _ = _
    rw [List.drop_zero, LM.glue_nil _ (LM.alls_none _ _ _ _ _), hR]
  rw [hR]
  clear hR
  go_enter Tryd.func14, Tryd.ntmps14
  go_wp2
  go_loopw [4, 5, 6, 7] (fun v i li co wr => ∃ (f a : Nat) (line col : Int) (out : List LM.Tv), a ≤ s.size ∧ s.size < f + a ∧ 1 ≤ line ∧ line ≤ 1 + a ∧ 1 ≤ col ∧ col ≤ 1 + a ∧ out.length ≤ a ∧ i = .int .i64 a ∧ li = .int .i64 line ∧ co = .int .i64 col ∧ OwnT wr (w.heap.size + 1) v out ∧ Lies wr w.heap.size 30 [.int .i64 0, .int .i64 0, .int .i64 0] ∧ Below w.heap.size w wr ∧ Hid (LM.glue out (LM.alls f (s.data.toList.drop a) a line col) = R)) (fun _ i _ _ _ => s.size - (intOf i).toNat)
  case atStart => exact ⟨s.size + 1, 0, 1, 1, [], by omega, by omega, by omega, by omega, by omega, by omega, by simp, rfl, rfl, rfl, OwnT.none_ _ _, Lies.made w 30 #[.int .i64 0, .int .i64 0, .int .i64 0], (Below.refl _ _).alloc (Nat.le_refl _) _, h0⟩
  case round =>
    obtain ⟨f, a, line, col, out, ha, hf, hl0, hl1, hc0, hc1, hout, rfl, rfl, rfl, hown, hF, hb, H⟩ := hrel
    have hN := rNext_any s (by omega) a ha line col ⟨hl0, by omega⟩ ⟨hc0, by omega⟩
    by_cases he : (LM.nx (s.data.toList.drop a) line col).t.e = 0
    · rw [rnv_yes he] at hN
      have hnx := LM.nx_end (s.data.toList.drop a) line col he
      rw [List.length_drop, size_len] at hnx
      by_cases hk : (LM.nx (s.data.toList.drop a) line col).t.k = 14
      · have hE := Lib.hid ((LM.alls_end out (f := f) (a := a) (by omega) he hk).symm.trans H.out)
        have hN' := Lib.hid hN
        rw [hk] at hN'
        generalize LM.nx (s.data.toList.drop a) line col = X at *
        clear hN he hk hnx H h0
        obtain ⟨A4, c4, rfl⟩ := hown.read
        go_wp2_with (go_at_call 11; refine (hN'.out _).mono ?_; rintro e w1 ⟨rfl, hb1⟩; have hF1 := hF.below hb1 hF.lt; have zl := hF1.lt; have g0 := hF1.free; have z0 : w1.cell? ⟨w.heap.size, 0, none⟩ = some (.int .i64 0) := hF1.cell 0; have z1 : w1.cell? ⟨w.heap.size, 1, none⟩ = some (.int .i64 0) := hF1.cell 1; have z2 : w1.cell? ⟨w.heap.size, 2, none⟩ = some (.int .i64 0) := hF1.cell 2)
        go_region_with (fail)
        go_wp2_with fail
        have hE' := hE.out
        subst hE'
        have o1 := own_below hown hb1
        have o2 := own_stored (own_stored (own_stored o1 (p := ⟨w.heap.size, 0, none⟩) (by simp) (.int .i64 0)) (p := ⟨w.heap.size, 1, none⟩) (by simp) (.int .i64 0)) (p := ⟨w.heap.size, 2, none⟩) (by simp) (.int .i64 0)
        have hb2 := hb.trans (hb1.mono hb.size)
        exact bodyPost_ret (v := .tuple #[.slice A4 out.length c4, .agg #[.int .i64 0, .int .i64 0, .int .i64 0]]) (by simp [results, Tryd.results14, go_sem, fin0 hF1, fin1 hF1, fin2 hF1]) rfl ⟨_, rfl, own_base (own_below o2 (below_drewN (((Below.refl _ _).alloc (Nat.le_refl _) _).alloc (by simp) _) 1)) (by omega), fin_below hb2 (Nat.le_refl _) (Nat.le_refl _) _ _ _ _ _⟩
      · have hk' : ((LM.nx (s.data.toList.drop a) line col).t.k == 14) = false := by simpa using hk
        obtain ⟨f', rfl⟩ : ∃ f', f = f' + 1 := ⟨f - 1, by omega⟩
        have hG := LM.alls_go (f := f') (a := a) out he hk
        rw [H.out] at hG
        obtain ⟨hx1, hx2, hx3, hx4⟩ : (LM.nx (s.data.toList.drop a) line col).t.k ≠ 14 ∧ 1 ≤ (LM.nx (s.data.toList.drop a) line col).t.len ∧ LM.skp false (s.data.toList.drop a) + 1 ≤ (LM.nx (s.data.toList.drop a) line col).len ∧ (LM.nx (s.data.toList.drop a) line col).len ≤ s.size - a := by
          rcases hnx with h | h
          · exact absurd h.1 hk
          · exact h
        have hlen1 : 1 ≤ (LM.nx (s.data.toList.drop a) line col).len := by omega
        clear hx1 hx2 hx3 hnx
        have hmv := mvw s a (LM.nx (s.data.toList.drop a) line col).len (by omega) (by omega) line col (by omega) (by omega) (by omega) (by omega)
        have hbd := LM.mv_bd (seg s a (LM.nx (s.data.toList.drop a) line col).len) line col hc0
        rw [seg_len (by omega)] at hbd
        rw [List.drop_drop] at hG
        rw [show (s.data.toList.drop a).take (LM.nx (s.data.toList.drop a) line col).len = seg s a (LM.nx (s.data.toList.drop a) line col).len from rfl] at hG
        generalize LM.nx (s.data.toList.drop a) line col = X at *
        obtain ⟨l', hl'⟩ : ∃ l', (LM.mv (seg s a X.len) line col).1 = l' := ⟨_, rfl⟩
        obtain ⟨c', hc'⟩ : ∃ c', (LM.mv (seg s a X.len) line col).2 = c' := ⟨_, rfl⟩
        rw [hl', hc'] at hmv hbd hG
        obtain ⟨m, hm⟩ : ∃ m, a + X.len = m := ⟨_, rfl⟩
        rw [hm] at hN hmv hG
        have hms : m ≤ s.size := by omega
        have ham : a < m := by omega
        have hll : l' ≤ 1 + m := by omega
        have hcc : c' ≤ 1 + m := by omega
        have hfl : out.flatMap tcs ++ [Value.int .i64 X.t.k, .int .i64 X.t.n, .string ⟨X.t.s.toArray⟩, .int .i64 X.line, .int .i64 X.col, .int .i64 (m : Nat)] = (out ++ [LM.tvo X a]).flatMap tcs := by
          rw [List.flatMap_append, ← hm]; rfl
        have hG' := Lib.hid hG.symm
        have hN' := Lib.hid hN
        have hmv' := Lib.hid hmv
        have hk'' := Lib.hid hk
        have hfl' := Lib.hid hfl
        clear hN he hk H h0 hl' hc' hm hG hmv hfl
        go_wp2_with (first
          | (go_at_call 11
             refine (hN'.out _).mono ?_
             rintro e w1 ⟨rfl, hb1⟩
             have hF1 := hF.below hb1 hF.lt
             have hown1 := own_below hown hb1
             have hb2 := hb.trans (hb1.mono hb.size)
             have z1 := hF1.lt
             clear hb1)
          | (at_builtin
             refine wpList_append_own (v := u4) (x := .slice (some ⟨w1.heap.size + 1 + 1, 0, none⟩) 1 1) (.agg #[.int .i64 0, .int .i64 0, .string ⟨#[]⟩, .int .i64 0, .int .i64 0, .int .i64 0]) 56 Tryd.infoToken rfl (by decide) rfl _ _ 35 rfl Tryd.underlying35 rfl rfl (own_turns hown1 ((((Turns.refl (fun _ => False) _).alloc _).alloc _).alloc _) (fun _ _ h => h)) (own_three w1 _ _ 24 #[.int .i64 X.t.k, .int .i64 X.t.n, .string ⟨X.t.s.toArray⟩, .int .i64 X.line, .int .i64 X.col, .int .i64 (m : Nat)]) (by simp [Value.oneCell']) (by omega) (by omega) (by simp; omega) ?_
             intro v9 w9 hown9 hg9 hat9
             clear hat9
             have T1 := Turns.appendedS hg9
             have hF9 := (((hF1.alloc _).alloc _).alloc _).turns T1 (fun h => by have := (World.ownsRow.lt hown1 _ h).1; omega)
             have hT9 : Lies w9 w1.heap.size 24 [.int .i64 X.t.k, .int .i64 X.t.n, .string ⟨X.t.s.toArray⟩, .int .i64 X.line, .int .i64 X.col, .int .i64 (m : Nat)] := (((Lies.made w1 24 #[.int .i64 X.t.k, .int .i64 X.t.n, .string ⟨X.t.s.toArray⟩, .int .i64 X.line, .int .i64 X.col, .int .i64 (m : Nat)]).alloc _).alloc _).turns T1 (fun h => by have := (World.ownsRow.lt hown1 _ h).2; omega)
             have hb9 := (((hb2.alloc hb2.size _).alloc (by simp; omega) _).alloc (by simp; omega) _).trans (T1.below (by simp; omega) (fun i hi => by have := (World.ownsRow.lt hown1 i hi).1; omega))
             have hown9' : OwnT w9 (w.heap.size + 1) v9 (out ++ [LM.tvo X a]) := by
               unfold OwnT
               rw [List.length_append, ← hfl'.out]
               exact hown9
             have r5 : w9.cell? ⟨w1.heap.size, 5, none⟩ = some (.int .i64 (m : Nat)) := hT9.cell 5
             clear hown1 hown9 hb2 T1 hg9)
          | (go_at_call 16
             refine (hmv'.out _).mono ?_
             rintro e w10 ⟨rfl, rfl⟩))
        go_roundw
        case rel => exact ⟨f', m, l', c', out ++ [LM.tvo X a], hms, by omega, by omega, hll, by omega, hcc, by simp; omega, rfl, rfl, rfl, hown9', hF9, hb9, hG'⟩
        case measure => simp [intOf]; omega
    · have hE := Lib.hid ((LM.alls_bad out (f := f) (a := a) (by omega) he).symm.trans H.out)
      rw [rnv_no he] at hN
      have hN' := Lib.hid hN
      have he' : ((LM.nx (s.data.toList.drop a) line col).t.e == 0) = false := by simpa using he
      generalize LM.nx (s.data.toList.drop a) line col = X at *
      clear hN H h0 he
      go_wp2_with (go_at_call 11; refine (hN'.out _).mono ?_; rintro e w1 ⟨rfl, hb1⟩; have hF1 := hF.below hb1 hF.lt; have zl := hF1.lt; have g0 := hF1.free; have z0 : w1.cell? ⟨w.heap.size, 0, none⟩ = some (.int .i64 0) := hF1.cell 0; have z1 : w1.cell? ⟨w.heap.size, 1, none⟩ = some (.int .i64 0) := hF1.cell 1; have z2 : w1.cell? ⟨w.heap.size, 2, none⟩ = some (.int .i64 0) := hF1.cell 2)
      go_region_with (fail)
      go_wp2_with fail
      have hE' := hE.out
      subst hE'
      have hb2 := hb.trans (hb1.mono hb.size)
      exact bodyPost_ret (v := .tuple #[.slice none 0 0, .agg #[.int .i64 X.t.e, .int .i64 X.line, .int .i64 X.col]]) (by simp [results, Tryd.results14, go_sem, fin0 hF1, fin1 hF1, fin2 hF1]) rfl ⟨_, rfl, OwnT.none_ _ _, fin_below hb2 (Nat.le_refl _) (Nat.le_refl _) _ _ _ _ _⟩
end Go.Proofs.YtmnadgkneaiccaaDoor
