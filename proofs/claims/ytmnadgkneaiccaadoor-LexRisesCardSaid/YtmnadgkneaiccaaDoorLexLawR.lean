/- The law LexRises, walked. -/
import Derived.Test.YtmnadgkneaiccaaDoorLexLawA
namespace Go.Proofs.YtmnadgkneaiccaaDoor
open Go.ChangeShapes Go.WideShapes Go.ChangeAt Go.RowKit

namespace LM
theorem mv_join : ∀ (p q : List UInt8) (l k : Int), mv (p ++ q) l k = mv q (mv p l k).1 (mv p l k).2
  | [], q, l, k => rfl
  | c :: p, q, l, k => by
    simp only [List.cons_append, mv]
    split
    · exact mv_join p q _ _
    · exact mv_join p q _ _
theorem alls_step {f : Nat} {l : List UInt8} {a : Nat} {i j : Int} {t : Tv} {ts : List Tv} (h : alls f l a i j = (t :: ts, (0, 0, 0))) :
    ∃ g, (nx l i j).t.e = 0 ∧ (nx l i j).t.k ≠ 14 ∧ t = tvo (nx l i j) a ∧ alls g (l.drop (nx l i j).len) (a + (nx l i j).len) (mv (l.take (nx l i j).len) i j).1 (mv (l.take (nx l i j).len) i j).2 = (ts, (0, 0, 0)) := by
  cases f with
  | zero => unfold alls at h; cases h
  | succ g =>
    unfold alls at h
    split at h
    · cases h
    · rename_i he
      split at h
      · cases h
      · rename_i hk
        simp only at h
        split at h
        · cases h
        · injection h with h1 h2
          injection h1 with h3 h4
          exact ⟨g, by simpa using he, hk, h3.symm, Prod.ext h4 h2⟩
theorem nx_rise (l : List UInt8) (i j : Int) (hj : 1 ≤ j) (he : (nx l i j).t.e = 0) (hk : (nx l i j).t.k ≠ 14) :
    (nx l i j).line < (mv (l.take (nx l i j).len) i j).1 ∨ ((nx l i j).line = (mv (l.take (nx l i j).len) i j).1 ∧ (nx l i j).col < (mv (l.take (nx l i j).len) i j).2) := by
  have hx := nx_end l i j he
  rcases hx with hx | ⟨-, h1, h2, h3⟩
  · exact absurd hx.1 hk
  have e : l.take (nx l i j).len = l.take (skp false l) ++ (l.drop (skp false l)).take (nx l i j).t.len := by
    rw [← List.take_add]; rfl
  rw [e, mv_join]
  have hb := mv_bd (l.take (skp false l)) i j hj
  refine mv_rise _ _ _ (by omega) ?_
  intro h
  have := congrArg List.length h
  rw [List.length_take, List.length_drop] at this
  have h4 : (nx l i j).len = skp false l + (nx l i j).t.len := rfl
  simp at this
  omega
end LM

theorem lexRises_long (s : ByteArray) (hs : 4096 < s.size) (w : World) (hT : ETab w) :
    Calls Tryd.prog 6 #[.string s] w fun e w' => e = .returned (.bool true) ∧ Went w w' := by
  have h1 : ∀ w1, Went w w1 → ETab w1 := fun w1 h => hT.on h
  go_enter Tryd.func6, Tryd.ntmps6
  go_wp2_with (first
    | (go_at_call 9; (with_reducible refine (awake_any _ hT).mono ?_); rintro e w1 ⟨rfl, hb1⟩)
    | (go_at_call 9; (with_reducible refine (awake_any _ (h1 _ hb1)).mono ?_); rintro e w2 ⟨rfl, hb2⟩))
  go_ret
  exact ⟨rfl, hb1.trans hb2⟩

theorem lexRises_bad (s : ByteArray) (hs : s.size ≤ 4096) (w : World) (hT : ETab w) (v : Value)
    (hN : ∀ w, Calls Tryd.prog 13 #[.string s] w fun e w' => ∃ v', e = .returned (.tuple #[v', .iface 58 v]) ∧ OwnT w' w.heap.size v' [] ∧ Went w w') :
    Calls Tryd.prog 6 #[.string s] w fun e w' => e = .returned (.bool true) ∧ Went w w' := by
  have dN := Lib.hid hN
  have hnil : ∀ (w : World), (binOp .neq 26 (.iface 58 v) .nilIface).run Tryd.prog w = .ok (.bool true) w := fun w => by kernel_rfl
  clear hN
  go_enter Tryd.func6, Tryd.ntmps6
  go_wp2_with (first
    | (go_at_call 9; refine (awake_any _ hT).mono ?_; rintro e w1 ⟨rfl, hb1⟩)
    | (go_at_call 13; refine (dN.out _).mono ?_; rintro e w2 ⟨v1, rfl, ho1, hb2⟩; obtain ⟨A1, c1, rfl⟩ := OwnT.read ho1))
  go_ret
  exact ⟨rfl, hb1.trans hb2⟩

set_option maxRecDepth 100000 in
set_option maxHeartbeats 4000000 in
theorem lexRises_ok (s : ByteArray) (hs : s.size ≤ 4096) (w : World) (hT : ETab w) (out : List LM.Tv) (f0 : Nat) (hl : out.length ≤ 100000) (h0 : Hid (LM.alls f0 s.data.toList 0 1 1 = (out, (0, 0, 0))))
    (hN : ∀ w, Calls Tryd.prog 13 #[.string s] w fun e w' => ∃ v', e = .returned (.tuple #[v', .nilIface]) ∧ OwnT w' w.heap.size v' out ∧ Went w w') :
    Calls Tryd.prog 6 #[.string s] w fun e w' => e = .returned (.bool true) ∧ Went w w' := by
  have dN := Lib.hid hN
  have NT := Lib.hid neq_token
  clear hN
  obtain ⟨n, hn⟩ : ∃ n, out.length = n := ⟨_, rfl⟩
  rw [hn] at hl
  have hn' := Lib.hid hn
  clear hn
  go_enter Tryd.func6, Tryd.ntmps6
  go_wp2_with (first
    | (go_at_call 9; refine (awake_any _ hT).mono ?_; rintro e w1 ⟨rfl, hb1⟩)
    | (go_at_call 13; refine (dN.out _).mono ?_; rintro e w2 ⟨v1, rfl, ho1, hb2⟩; obtain ⟨A1, c1, rfl⟩ := OwnT.read ho1; have hb3 : Went w w2 := hb1.trans hb2; rw [hn'.out] at ho1 ⊢; clear hb2))
  go_loopw [5, 6, 7, 32] (fun i li co v wr => ∃ (k f a : Nat) (line col : Int), k ≤ n ∧ a ≤ s.size ∧ 1 ≤ line ∧ line ≤ 1 + a ∧ 1 ≤ col ∧ col ≤ 1 + a ∧ i = .int .i64 a ∧ li = .int .i64 line ∧ co = .int .i64 col ∧ v = .int .i64 k ∧ Below w2.heap.size w2 wr ∧ Hid (LM.alls f (s.data.toList.drop a) a line col = (out.drop k, (0, 0, 0)))) (fun _ _ _ v _ => n - (intOf v).toNat)
  case atStart => exact ⟨0, f0, 0, 1, 1, by omega, by omega, by omega, by omega, by omega, by omega, rfl, rfl, rfl, rfl, Below.refl _ _, h0⟩
  case round =>
    obtain ⟨k, f, a, line, col, hkn, ha, hl0, hl1, hc0, hc1, rfl, rfl, rfl, rfl, hb, H⟩ := hrel
    by_cases hlt : k < n
    · have hd := H.out
      have hk1 : k < out.length := by rw [hn'.out]; exact hlt
      rw [List.drop_eq_getElem_cons hk1] at hd
      have ht : out[k]? = some out[k] := List.getElem?_eq_getElem hk1
      obtain ⟨f', he, hk, hX, hG⟩ := LM.alls_step hd
      rw [hX] at ht
      have ho := own_below ho1 hb
      obtain ⟨g, rfl, -, hg, p0, p1, p2, p3, p4, p5⟩ := OwnT.cell ho ht
      have hr := LM.nx_rise _ line col hc0 he hk
      have hN := Next_any s (by omega) a ha line col ⟨hl0, by omega⟩ ⟨hc0, by omega⟩
      rw [nxv_yes he] at hN
      have hnx := LM.nx_end (s.data.toList.drop a) line col he
      rw [List.length_drop, size_len] at hnx
      obtain ⟨hx1, hx2, hx3, hx4⟩ : (LM.nx (s.data.toList.drop a) line col).t.k ≠ 14 ∧ 1 ≤ (LM.nx (s.data.toList.drop a) line col).t.len ∧ LM.skp false (s.data.toList.drop a) + 1 ≤ (LM.nx (s.data.toList.drop a) line col).len ∧ (LM.nx (s.data.toList.drop a) line col).len ≤ s.size - a := by
        rcases hnx with h | h
        · exact absurd h.1 hk
        · exact h
      have hlen1 : 1 ≤ (LM.nx (s.data.toList.drop a) line col).len := by omega
      clear hx1 hx2 hx3 hnx
      have hmv := mvw s a (LM.nx (s.data.toList.drop a) line col).len (by omega) (by omega) line col (by omega) (by omega) (by omega) (by omega)
      have hbd := LM.mv_bd (seg s a (LM.nx (s.data.toList.drop a) line col).len) line col hc0
      rw [seg_len (by omega)] at hbd
      rw [List.drop_drop] at hG
      rw [show (s.data.toList.drop a).take (LM.nx (s.data.toList.drop a) line col).len = seg s a (LM.nx (s.data.toList.drop a) line col).len from rfl] at hG hr
      clear hd hX ht
      simp only [LM.tvo] at p0 p1 p2 p3 p4 p5
      generalize LM.nx (s.data.toList.drop a) line col = X at *
      obtain ⟨l', hl'⟩ : ∃ l', (LM.mv (seg s a X.len) line col).1 = l' := ⟨_, rfl⟩
      obtain ⟨c', hc'⟩ : ∃ c', (LM.mv (seg s a X.len) line col).2 = c' := ⟨_, rfl⟩
      rw [hl', hc'] at hmv hbd hG hr
      obtain ⟨m, hm⟩ : ∃ m, a + X.len = m := ⟨_, rfl⟩
      rw [hm] at hN hmv hG p5
      have hms : m ≤ s.size := by omega
      have ham : a < m := by omega
      have hll : l' ≤ 1 + m := by omega
      have hcc : c' ≤ 1 + m := by omega
      have hl2 : 1 ≤ l' := by omega
      have hc2 : 1 ≤ c' := by omega
      have r := NT.out X.t.k X.t.n ⟨X.t.s.toArray⟩ X.line X.col m
      have hG' := Lib.hid hG
      have hN' := Lib.hid hN
      have hmv' := Lib.hid hmv
      have e1 : (decide (l' < X.line)) = false := by rw [decide_eq_false_iff_not]; omega
      clear hN he hk H hl' hc' hm hG hmv hbd
      rcases hr with hr | ⟨hr1, hr2⟩
      · have e2 : (X.line == l') = false := by simp; omega
        go_wp2_with (first
          | (go_at_call 10
             refine (hN'.out _).mono ?_
             rintro e w5 ⟨rfl, hb5⟩
             have hL5 := (Lies.made wr 24 #[.int .i64 X.t.k, .int .i64 X.t.n, .string ⟨X.t.s.toArray⟩, .int .i64 X.line, .int .i64 X.col, .int .i64 (m : Nat)]).below hb5 (by simp)
             have hz := hL5.lt
             have q0 : w5.cell? ⟨wr.heap.size, 0, none⟩ = some (.int .i64 X.t.k) := hL5.cell 0
             have q1 : w5.cell? ⟨wr.heap.size, 1, none⟩ = some (.int .i64 X.t.n) := hL5.cell 1
             have q2 : w5.cell? ⟨wr.heap.size, 2, none⟩ = some (.string ⟨X.t.s.toArray⟩) := hL5.cell 2
             have q3 : w5.cell? ⟨wr.heap.size, 3, none⟩ = some (.int .i64 X.line) := hL5.cell 3
             have q4 : w5.cell? ⟨wr.heap.size, 4, none⟩ = some (.int .i64 X.col) := hL5.cell 4
             have q5 : w5.cell? ⟨wr.heap.size, 5, none⟩ = some (.int .i64 (m : Nat)) := hL5.cell 5
             have hb6 : Below w2.heap.size w2 w5 := hb.trans ((below_new hb5).mono hb.size)
             clear hL5 hb5)
          | (go_at_call 16
             refine (hmv'.out _).mono ?_
             rintro e w10 ⟨rfl, rfl⟩))
        go_roundw
        case rel => exact ⟨k + 1, f', m, l', c', by omega, hms, hl2, hll, hc2, hcc, rfl, rfl, rfl, by go_num, hb6.alloc hb6.size _, hG'⟩
        case measure => simp [intOf]; omega
      · have e2 : (X.line == l') = true := by simp; omega
        have e3 : (decide (c' ≤ X.col)) = false := by rw [decide_eq_false_iff_not]; omega
        clear hr1
        go_wp2_with (first
          | (go_at_call 10
             refine (hN'.out _).mono ?_
             rintro e w5 ⟨rfl, hb5⟩
             have hL5 := (Lies.made wr 24 #[.int .i64 X.t.k, .int .i64 X.t.n, .string ⟨X.t.s.toArray⟩, .int .i64 X.line, .int .i64 X.col, .int .i64 (m : Nat)]).below hb5 (by simp)
             have hz := hL5.lt
             have q0 : w5.cell? ⟨wr.heap.size, 0, none⟩ = some (.int .i64 X.t.k) := hL5.cell 0
             have q1 : w5.cell? ⟨wr.heap.size, 1, none⟩ = some (.int .i64 X.t.n) := hL5.cell 1
             have q2 : w5.cell? ⟨wr.heap.size, 2, none⟩ = some (.string ⟨X.t.s.toArray⟩) := hL5.cell 2
             have q3 : w5.cell? ⟨wr.heap.size, 3, none⟩ = some (.int .i64 X.line) := hL5.cell 3
             have q4 : w5.cell? ⟨wr.heap.size, 4, none⟩ = some (.int .i64 X.col) := hL5.cell 4
             have q5 : w5.cell? ⟨wr.heap.size, 5, none⟩ = some (.int .i64 (m : Nat)) := hL5.cell 5
             have hb6 : Below w2.heap.size w2 w5 := hb.trans ((below_new hb5).mono hb.size)
             clear hL5 hb5)
          | (go_at_call 16
             refine (hmv'.out _).mono ?_
             rintro e w10 ⟨rfl, rfl⟩))
        go_roundw
        case rel => exact ⟨k + 1, f', m, l', c', by omega, hms, hl2, hll, hc2, hcc, rfl, rfl, rfl, by go_num, hb6.alloc hb6.size _, hG'⟩
        case measure => simp [intOf]; omega
    · go_wp2
      go_ret
      exact ⟨rfl, hb3.trans hb⟩

theorem lexRises_walk (s : ByteArray) (w : World) (hT : ETab w) :
    Calls Tryd.prog 6 #[.string s] w fun e w' => e = .returned (.bool true) ∧ Below w.heap.size w w' := by
  by_cases hs : 4096 < s.size
  · exact lexRises_long s hs w hT
  · have hN := All_any s (by omega)
    have he := LM.alls_e (s.size + 1) s.data.toList 0 1 1
    have hlen := LM.alls_len (s.size + 1) s.data.toList 0 1 1
    have hno := LM.alls_none (s.size + 1) s.data.toList 0 1 1
    obtain ⟨R, hR⟩ : ∃ R, LM.alls (s.size + 1) s.data.toList 0 1 1 = R := ⟨_, rfl⟩
    rw [hR] at hN he hlen hno
    obtain ⟨l, k, i, j⟩ := R
    rcases he with he | he
    · cases he
      exact lexRises_ok s (by omega) w hT l _ (by simp only at hlen; omega) hR hN
    · simp only at he
      have hl : l = [] := hno (by simp only; omega)
      subst hl
      simp only at hN
      rw [aer_no (show k ≠ 0 by omega)] at hN
      exact lexRises_bad s (by omega) w hT _ hN
end Go.Proofs.YtmnadgkneaiccaaDoor
