/- What package lex gives of a whole text. -/
import Derived.Test.YtfabafolbelhdaaDoorLexAll
namespace Go.Proofs.YtfabafolbelhdaaDoor
open Go.ChangeShapes Go.WideShapes Go.ChangeAt Go.RowKit

namespace LM
def glue (out : List Tv) (X : List Tv × (Int × Int × Int)) : List Tv × (Int × Int × Int) := if X.2.1 ≠ 0 then ([], X.2) else (out ++ X.1, X.2)
theorem alls_bad {f : Nat} {l : List UInt8} {a : Nat} {i j : Int} (out : List Tv) (hf : 0 < f) (h : (nx l i j).t.e ≠ 0) : glue out (alls f l a i j) = ([], ((nx l i j).t.e, (nx l i j).line, (nx l i j).col)) := by
  obtain ⟨g, rfl⟩ : ∃ g, f = g + 1 := ⟨f - 1, by omega⟩
  unfold alls; rw [if_pos h]; unfold glue; rw [if_pos h]
theorem alls_end {f : Nat} {l : List UInt8} {a : Nat} {i j : Int} (out : List Tv) (hf : 0 < f) (h : (nx l i j).t.e = 0) (hk : (nx l i j).t.k = 14) : glue out (alls f l a i j) = (out, (0, 0, 0)) := by
  obtain ⟨g, rfl⟩ : ∃ g, f = g + 1 := ⟨f - 1, by omega⟩
  unfold alls; rw [if_neg (by simp [h]), if_pos hk]; unfold glue; rw [if_neg (by simp)]; simp
theorem alls_go {f : Nat} {l : List UInt8} {a : Nat} {i j : Int} (out : List Tv) (h : (nx l i j).t.e = 0) (hk : (nx l i j).t.k ≠ 14) :
    glue out (alls (f + 1) l a i j) = glue (out ++ [tvo (nx l i j) a]) (alls f (l.drop (nx l i j).len) (a + (nx l i j).len) (mv (l.take (nx l i j).len) i j).1 (mv (l.take (nx l i j).len) i j).2) := by
  conv => lhs; unfold alls
  rw [if_neg (by simp [h]), if_neg hk]
  simp only
  generalize alls f (l.drop (nx l i j).len) (a + (nx l i j).len) (mv (l.take (nx l i j).len) i j).1 (mv (l.take (nx l i j).len) i j).2 = R
  unfold glue
  by_cases hR : R.2.1 = 0
  · rw [if_neg (c := R.2.1 ≠ 0) (by simp [hR])]
    simp [hR]
  · rw [if_pos (c := R.2.1 ≠ 0) hR]
    simp [hR]
theorem glue_nil (X : List Tv × (Int × Int × Int)) (h : X.2.1 ≠ 0 → X.1 = []) : glue [] X = X := by
  unfold glue
  split
  · rename_i hx; rw [← h hx]
  · simp
theorem alls_none (f : Nat) (l : List UInt8) (a : Nat) (i j : Int) : (alls f l a i j).2.1 ≠ 0 → (alls f l a i j).1 = [] := by
  cases f with
  | zero => intro h; rfl
  | succ f =>
    unfold alls
    split
    · intro; rfl
    · split
      · intro; rfl
      · simp only
        split
        · intro; rfl
        · rename_i h; intro h2; exact absurd h2 (by simpa using h)
end LM

theorem own_two (w : World) (o : Obj) (t : TypeId) (cs : Array Value) (hs : cs.size = 6 := by rfl) : ((w.alloc o).alloc (.cells cs t)).ownsRow (w.heap.size + 1) t 6 (.slice (some ⟨w.heap.size + 1, 0, none⟩) 1 1) 1 cs.toList := by
  have := own_one (e := t) (sz := 6) (B := w.heap.size + 1) (w.alloc o) cs hs (by simp)
  rwa [show (w.alloc o).heap.size = w.heap.size + 1 by simp] at this
/-- an error with its place, or none -/
def aer (p : Int × Int × Int) : Value := if p.1 = 0 then .nilIface else .iface 58 (.agg #[.int .i64 p.2.1, .int .i64 p.2.2, .iface 48 (.int .i64 p.1)])
theorem aer_no {e i j : Int} (h : e ≠ 0) : aer (e, i, j) = .iface 58 (.agg #[.int .i64 i, .int .i64 j, .iface 48 (.int .i64 e)]) := by unfold aer; rw [if_neg h]

theorem All_long (s : ByteArray) (hs : 16384 < s.size) (w : World) :
    Calls Tryd.prog 14 #[.string s] w fun e w' => e = .returned (.tuple #[.slice none 0 0, .iface 48 (.int .i64 14)]) ∧ Went w w' := by
  go_enter Tryd.func14, Tryd.ntmps14
  go_wp2
  go_ret2
  exact ⟨rfl, Below.refl _ _⟩

def tvv (X : LM.Nx) (n : Nat) : Array Value := #[.int .i64 X.t.k, .int .i64 X.t.n, .string ⟨X.t.s.toArray⟩, .int .i64 X.line, .int .i64 X.col, .int .i64 (n : Nat)]

set_option maxRecDepth 100000 in
set_option maxHeartbeats 4000000 in
theorem All_any (s : ByteArray) (hs : s.size ≤ 16384) (w : World) :
    Calls Tryd.prog 14 #[.string s] w fun e w' => ∃ v', e = .returned (.tuple #[v', aer (LM.alls (s.size + 1) s.data.toList 0 1 1).2]) ∧ OwnT w' w.heap.size v' (LM.alls (s.size + 1) s.data.toList 0 1 1).1 ∧ Went w w' := by
  obtain ⟨R, hR⟩ : ∃ R, LM.alls (s.size + 1) s.data.toList 0 1 1 = R := ⟨_, rfl⟩
  have h0 : Hid (LM.glue [] (LM.alls (s.size + 1) (s.data.toList.drop 0) 0 1 1) = R) := by
    show _ = _
    rw [List.drop_zero, LM.glue_nil _ (LM.alls_none _ _ _ _ _), hR]
  rw [hR]
  clear hR
  go_enter Tryd.func14, Tryd.ntmps14
  go_wp2
  go_loopw [4] (fun v wr => ∃ (f a : Nat) (line col : Int) (out : List LM.Tv), a ≤ s.size ∧ s.size < f + a ∧ 1 ≤ line ∧ line ≤ 1 + a ∧ 1 ≤ col ∧ col ≤ 1 + a ∧ out.length ≤ a ∧ OwnT wr (w.heap.size + 1) v out ∧ Lies wr w.heap.size 63 [.int .i64 (a : Nat), .int .i64 line, .int .i64 col] ∧ Below w.heap.size w wr ∧ Hid (LM.glue out (LM.alls f (s.data.toList.drop a) a line col) = R)) (fun _ wr => match wr.cell? ⟨w.heap.size, 0, none⟩ with | some (.int .i64 k) => s.size - k.toNat | _ => 0)
  case atStart => exact ⟨s.size + 1, 0, 1, 1, [], by omega, by omega, by omega, by omega, by omega, by omega, by simp, OwnT.none_ _ _, Lies.made w 63 #[.int .i64 0, .int .i64 1, .int .i64 1], (Below.refl _ _).alloc (Nat.le_refl _) _, h0⟩
  case round =>
    obtain ⟨f, a, line, col, out, ha, hf, hl0, hl1, hc0, hc1, hout, hown, hP, hb, H⟩ := hrel
    have k0 : wr.cell? ⟨w.heap.size, 0, none⟩ = some (.int .i64 (a : Nat)) := hP.cell 0
    have k1 : wr.cell? ⟨w.heap.size, 1, none⟩ = some (.int .i64 line) := hP.cell 1
    have k2 : wr.cell? ⟨w.heap.size, 2, none⟩ = some (.int .i64 col) := hP.cell 2
    have hN := next_any s (by omega) a ha line col hl0 (by omega) hc0 (by omega)
    by_cases he : (LM.nx (s.data.toList.drop a) line col).t.e = 0
    · rw [nxv_yes he] at hN
      have hnx := LM.nx_end (s.data.toList.drop a) line col he
      rw [List.length_drop, size_len] at hnx
      by_cases hk : (LM.nx (s.data.toList.drop a) line col).t.k = 14
      · have hE := Lib.hid ((LM.alls_end out (f := f) (a := a) (by omega) he hk).symm.trans H.out)
        have hN' := Lib.hid hN
        rw [hk] at hN'
        generalize LM.nx (s.data.toList.drop a) line col = X at *
        clear hN he hk hnx H h0
        obtain ⟨A4, c4, rfl⟩ := hown.read
        go_wp2_with (go_at_call 23; refine (hN'.out _).mono ?_; rintro e w1 ⟨rfl, hb1⟩)
        go_ret2
        have hE' := hE.out
        subst hE'
        exact ⟨_, rfl, (own_base (own_below (own_below hown hb1) ((Below.refl _ _).alloc (Nat.le_refl _) _)) (by omega) : OwnT _ w.heap.size _ out), (hb.trans (hb1.mono hb.size)).alloc (hb.trans (hb1.mono hb.size)).size _⟩
      · have hk' : ((LM.nx (s.data.toList.drop a) line col).t.k == 14) = false := by simpa using hk
        obtain ⟨f', rfl⟩ : ∃ f', f = f' + 1 := ⟨f - 1, by omega⟩
        have hG := LM.alls_go (f := f') (a := a) out he hk
        rw [H.out] at hG
        obtain ⟨hx1, hx2, hx3, hx4⟩ : (LM.nx (s.data.toList.drop a) line col).t.k ≠ 14 ∧ 1 ≤ (LM.nx (s.data.toList.drop a) line col).t.len ∧ LM.skp false (s.data.toList.drop a) + 1 ≤ (LM.nx (s.data.toList.drop a) line col).len ∧ (LM.nx (s.data.toList.drop a) line col).len ≤ s.size - a := by
          rcases hnx with h | h
          · exact absurd h.1 hk
          · exact h
        have hlen1 : 1 ≤ (LM.nx (s.data.toList.drop a) line col).len := by omega
        clear hx1 hx2 hx3 hnx
        have hmv := moved_any s a (LM.nx (s.data.toList.drop a) line col).len (by omega) (by omega) line col (by omega) (by omega) (by omega) (by omega)
        have hbd := LM.mv_bd (seg s a (LM.nx (s.data.toList.drop a) line col).len) line col hc0
        rw [seg_len (by omega)] at hbd
        rw [List.drop_drop] at hG
        rw [show (s.data.toList.drop a).take (LM.nx (s.data.toList.drop a) line col).len = seg s a (LM.nx (s.data.toList.drop a) line col).len from rfl] at hG
        generalize LM.nx (s.data.toList.drop a) line col = X at *
        obtain ⟨l', hl'⟩ : ∃ l', (LM.mv (seg s a X.len) line col).1 = l' := ⟨_, rfl⟩
        obtain ⟨c', hc'⟩ : ∃ c', (LM.mv (seg s a X.len) line col).2 = c' := ⟨_, rfl⟩
        rw [hl', hc'] at hmv hbd hG
        obtain ⟨m, hm⟩ : ∃ m, a + X.len = m := ⟨_, rfl⟩
        rw [hm] at hN hmv hG
        have hms : m ≤ s.size := by omega
        have ham : a < m := by omega
        have hll : l' ≤ 1 + m := by omega
        have hcc : c' ≤ 1 + m := by omega
        have hgc : OwnT wr (w.heap.size + 1) _ out := hown
        have hfl : out.flatMap tcs ++ [Value.int .i64 X.t.k, .int .i64 X.t.n, .string ⟨X.t.s.toArray⟩, .int .i64 X.line, .int .i64 X.col, .int .i64 (m : Nat)] = (out ++ [LM.tvo X a]).flatMap tcs := by
          rw [List.flatMap_append, ← hm]; rfl
        have hG' := Lib.hid hG.symm
        have hN' := Lib.hid hN
        have hmv' := Lib.hid hmv
        have hk'' := Lib.hid hk
        have hfl' := Lib.hid hfl
        clear hN he hk H h0 hl' hc' hm hG hmv hgc hfl
        go_wp2_with (first
          | (go_at_call 23
             refine (hN'.out _).mono ?_
             rintro e w1 ⟨rfl, hb1⟩
             have hP1 := hP.below hb1 hP.lt
             have hown1 := own_below hown hb1
             have hb2 := hb.trans (hb1.mono hb.size)
             have z1 := hP1.lt
             have q0 : w1.cell? ⟨w.heap.size, 0, none⟩ = some (.int .i64 (a : Nat)) := hP1.cell 0
             have q1 : w1.cell? ⟨w.heap.size, 1, none⟩ = some (.int .i64 line) := hP1.cell 1
             have q2 : w1.cell? ⟨w.heap.size, 2, none⟩ = some (.int .i64 col) := hP1.cell 2
             clear k0 k1 k2 hb1)
          | (at_builtin
             refine wpList_append_own (v := u4) (x := .slice (some ⟨w1.heap.size + 1, 0, none⟩) 1 1) (.agg #[.int .i64 0, .int .i64 0, .string ⟨#[]⟩, .int .i64 0, .int .i64 0, .int .i64 0]) 56 Tryd.infoToken rfl (by decide) rfl _ _ 39 rfl Tryd.underlying39 rfl rfl (own_turns hown1 (((Turns.refl (fun _ => False) _).alloc _).alloc _) (fun _ _ h => h)) (own_two w1 _ 44 #[.int .i64 X.t.k, .int .i64 X.t.n, .string ⟨X.t.s.toArray⟩, .int .i64 X.line, .int .i64 X.col, .int .i64 (m : Nat)]) (by simp [Value.oneCell']) (by omega) (by omega) (by simp; omega) ?_
             intro v9 w9 hown9 hg9 hat9
             clear hat9
             have T1 := Turns.appendedS hg9
             have hP9 := ((hP1.alloc _).alloc _).turns T1 (fun h => by have := (World.ownsRow.lt hown1 _ h).1; omega)
             have hT9 : Lies w9 w1.heap.size 44 [.int .i64 X.t.k, .int .i64 X.t.n, .string ⟨X.t.s.toArray⟩, .int .i64 X.line, .int .i64 X.col, .int .i64 (m : Nat)] := ((Lies.made w1 44 #[.int .i64 X.t.k, .int .i64 X.t.n, .string ⟨X.t.s.toArray⟩, .int .i64 X.line, .int .i64 X.col, .int .i64 (m : Nat)]).alloc _).turns T1 (fun h => by have := (World.ownsRow.lt hown1 _ h).2; omega)
             have hb9 := ((hb2.alloc hb2.size _).alloc (by simp; omega) _).trans (T1.below (by simp; omega) (fun i hi => by have := (World.ownsRow.lt hown1 i hi).1; omega))
             have hown9' : OwnT w9 (w.heap.size + 1) v9 (out ++ [LM.tvo X a]) := by
               unfold OwnT
               rw [List.length_append, ← hfl'.out]
               exact hown9
             have r0 : w9.cell? ⟨w.heap.size, 0, none⟩ = some (.int .i64 (a : Nat)) := hP9.cell 0
             have r1 : w9.cell? ⟨w.heap.size, 1, none⟩ = some (.int .i64 line) := hP9.cell 1
             have r2 : w9.cell? ⟨w.heap.size, 2, none⟩ = some (.int .i64 col) := hP9.cell 2
             have r5 : w9.cell? ⟨w1.heap.size, 5, none⟩ = some (.int .i64 (m : Nat)) := hT9.cell 5
             clear hown1 hown9 hb2 q0 q1 q2 T1 hg9)
          | (go_at_call 24
             refine (hmv'.out _).mono ?_
             rintro e w10 ⟨rfl, hb10⟩
             have hP10 := hP9.below hb10 hP9.lt
             have hown10 : OwnT w10 (w.heap.size + 1) v9 (out ++ [LM.tvo X a]) := own_below hown9' hb10
             have hb11 := hb9.trans (hb10.mono hb9.size)
             have t0 : w10.cell? ⟨w.heap.size, 0, none⟩ = some (.int .i64 (a : Nat)) := hP10.cell 0
             have t1 : w10.cell? ⟨w.heap.size, 1, none⟩ = some (.int .i64 line) := hP10.cell 1
             have t2 : w10.cell? ⟨w.heap.size, 2, none⟩ = some (.int .i64 col) := hP10.cell 2
             have g10 := hP10.free
             clear r0 r1 r2 r5 hb10 hown9'))
        go_roundw
        case rel =>
          refine ⟨f', m, l', c', out ++ [LM.tvo X a], hms, by omega, by omega, hll, by omega, hcc, by simp; omega, ?_, ?_, ?_, hG'⟩
          · exact own_stored (own_stored (own_stored hown10 (p := ⟨w.heap.size, 0, none⟩) (by simp) _) (p := ⟨w.heap.size, 1, none⟩) (by simp) _) (p := ⟨w.heap.size, 2, none⟩) (by simp) _
          · exact ((hP10.stored 0 (.int .i64 (m : Nat))).stored 1 (.int .i64 l')).stored 2 (.int .i64 c')
          · exact ((hb11.setCell (Nat.le_refl _) _).setCell (Nat.le_refl _) _).setCell (Nat.le_refl _) _
        case measure =>
          have q := (((hP10.stored 0 (.int .i64 (m : Nat))).stored 1 (.int .i64 l')).stored 2 (.int .i64 c')).cell 0
          rw [q, hP.cell 0]
          simp; omega
    · have hE := Lib.hid ((LM.alls_bad out (f := f) (a := a) (by omega) he).symm.trans H.out)
      rw [nxv_no he] at hN
      have hN' := Lib.hid hN
      have he' := Lib.hid he
      generalize LM.nx (s.data.toList.drop a) line col = X at *
      clear hN he H h0
      go_wp2_with (go_at_call 23; refine (hN'.out _).mono ?_; rintro e w1 ⟨rfl, hb1⟩)
      go_ret2
      have hE' := hE.out
      subst hE'
      exact ⟨.slice none 0 0, by rw [show ([], X.t.e, X.line, X.col).2 = (X.t.e, X.line, X.col) from rfl, aer_no he'.out]; rfl, OwnT.none_ _ _, (hb.trans (hb1.mono hb.size)).alloc (hb.trans (hb1.mono hb.size)).size _⟩
end Go.Proofs.YtfabafolbelhdaaDoor
