/- Package match: Same of a table without anything, whatever the second name is. -/
import Derived.Test.YtbomodendobnkaaGreatQ34
import Derived.Test.YtbomodendobnkaaGreatQ35
import Derived.Test.YtbomodendobnkaaGreatQ25
namespace Go.Proofs.YtbomodendobnkaaGreat
open Go.ChangeShapes Go.WideShapes Go.ChangeAt Go.RowKit Go.Deep Go.Maps

theorem kd_long (x : ByteArray) (hx : 1000 < x.size) : EM.kd tb0 x = 0 := by
  have e : EM.sy x = false := by
    unfold EM.sy
    exact sym_short (.inr (.inl (by omega)))
  unfold EM.kd
  rw [e]
  rfl
set_option maxRecDepth 100000 in
theorem kind_long (p : Nat) (D : Nat → Prop) (x : ByteArray) (hl1 : 1000 < x.size) (hx : x.size ≤ maxLen) (w : World) (h : Tw w p D tb0) :
    Calls Tryz.prog 54 #[.pointer (some ⟨p, 0, none⟩), .string x] w fun e w' => e = .returned (.int .i64 0) ∧ Went w w' := by
  have hs : LM.sym x.data.toList = false := sym_short (.inr (.inl (by omega)))
  obtain ⟨⟨mt, v, ma, nt, h1, h2, h3, h4, h5, h6, h7, h8⟩, h9, h10⟩ := h
  have c2 : w.cell? ⟨p, 2, none⟩ = some ma := h1.cell 2
  have hl := h5.look_ok Tryz.underlying63 Tryz.zeroB (b := x) hx
  have hS := Lib.hid (fun w => Symbol_any x (by unfold maxLen at hx; omega) w)
  clear h1 h2 h3 h4 h5 h6 h7 h8 h9 h10
  obtain ⟨b0, hb0⟩ : ∃ b0, (tb0.A x).getD ⟨0, ByteArray.empty⟩ = b0 := ⟨_, rfl⟩
  rw [hb0, show (tb0.A x).isSome = false from rfl] at hl
  clear hb0
  simp only [encB] at hl
  go_enter Tryz.func54, Tryz.ntmps54
  go_wp2_with (go_at_call 71; refine (hS.out _).mono ?_; rw [hs]; rintro e w' ⟨rfl, rfl⟩)
  go_ret
  exact ⟨rfl, (Below.refl _ _).alloc (Nat.le_refl _) _⟩
set_option maxRecDepth 100000 in
theorem check_long (p : Nat) (D : Nat → Prop) (a : Int) (x : ByteArray) (hl1 : 1000 < x.size) (hx : x.size ≤ maxLen) (w : World) (h : Tw w p D tb0) :
    Calls Tryz.prog 36 #[.pointer (some ⟨p, 0, none⟩), .int .i64 a, .string x] w fun e w' => e = .returned (er (EM.ck tb0 a x)) ∧ Went w w' := by
  have hK := Lib.hid (fun w h => kind_long p D x hl1 hx w h)
  have h' := Lib.hid h
  have hkd := kd_long x hl1
  obtain ⟨⟨mt, v, ma, nt, h1, h2, h3, h4, h5, h6, h7, h8⟩, h9, h10⟩ := h
  obtain ⟨A, c, rfl⟩ := h2.read
  have c1 : w.cell? ⟨p, 1, none⟩ = some (.slice A tb0.P.length c) := h1.cell 1
  clear h1 h2 h3 h4 h5 h6 h7 h8 h9 h10
  unfold EM.ck
  by_cases n1 : a < 0
  · rw [if_pos (.inl n1), er_y (by omega)]
    go_enter Tryz.func36, Tryz.ntmps36
    go_wp2
    go_ret
    exact ⟨rfl, Below.refl _ _⟩
  · by_cases n2 : (tb0.P.length : Int) < a
    · rw [if_pos (.inr n2), er_y (by omega)]
      go_enter Tryz.func36, Tryz.ntmps36
      go_wp2
      go_ret
      exact ⟨rfl, Below.refl _ _⟩
    · rw [if_neg (by omega), hkd, if_pos rfl, er_y (by omega)]
      clear hkd
      go_enter Tryz.func36, Tryz.ntmps36
      go_wp2_with (go_at_call 54; refine (hK.out _ h'.out).mono ?_; rintro e w' ⟨rfl, hb⟩)
      go_ret
      exact ⟨rfl, hb⟩
theorem ck_long (a : Int) (x : ByteArray) (h : 1000 < x.size) : EM.ck tb0 a x ≠ 0 := by
  have k := kd_long x h
  unfold EM.ck
  rw [k]
  split <;> simp
set_option maxRecDepth 100000 in
theorem same_long (p : Nat) (D : Nat → Prop) (a b : Int) (x y : ByteArray) (hx : x.size ≤ 1000) (hy1 : 1000 < y.size) (hy : y.size ≤ maxLen) (w : World) (h : Tw w p D tb0) :
    Calls Tryz.prog 22 #[.pointer (some ⟨p, 0, none⟩), .int .i64 a, .string x, .int .i64 b, .string y] w fun e w' => e = .returned (.bool (EM.sm tb0 a x b y)) ∧ Went w w' := by
  have hK := Lib.hid (fun w h => check_any p D tb0 a x (by omega) w h)
  have hK2 := Lib.hid (fun w h => check_long p D b y hy1 hy w h)
  have c2 := ck_long b y hy1
  have h' := Lib.hid h
  clear h
  by_cases c1 : EM.ck tb0 a x = 0
  · rw [c1, er_n] at hK
    have e : EM.sm tb0 a x b y = false := by unfold EM.sm; rw [decide_eq_false (fun h => c2 h.2.1)]
    rw [e]
    rw [er_y c2] at hK2
    obtain ⟨k, hk⟩ : ∃ k, EM.ck tb0 b y = k := ⟨_, rfl⟩
    rw [hk] at hK2
    clear e c1 c2 hx hy hy1 hk
    go_enter Tryz.func22, Tryz.ntmps22
    go_wp2_with (first
      | (go_at_call 36; (with_reducible refine (hK.out _ h'.out).mono ?_); rintro e w2 ⟨rfl, hb⟩; have hT2 := Lib.hid (h'.out.below hb); have hW2 := Lib.hid hb; clear hb)
      | (go_at_call 36; (with_reducible refine (hK2.out _ hT2.out).mono ?_); rintro e w3 ⟨rfl, hb⟩; have hW3 := Lib.hid (Went.trans hW2.out hb); clear hb))
    go_ret
    exact ⟨rfl, hW3.out⟩
  · have e : EM.sm tb0 a x b y = false := by unfold EM.sm; rw [decide_eq_false (fun h => c1 h.1)]
    rw [e]
    rw [er_y c1] at hK
    obtain ⟨k, hk⟩ : ∃ k, EM.ck tb0 a x = k := ⟨_, rfl⟩
    rw [hk] at hK
    clear e c1 c2 hx hy hy1 hk
    go_enter Tryz.func22, Tryz.ntmps22
    go_wp2_with (go_at_call 36; refine (hK.out _ h'.out).mono ?_; rintro e w2 ⟨rfl, hb⟩)
    go_ret
    exact ⟨rfl, hb⟩
/-- does a table without anything call two names the same? -/
def Q0 (x y : List UInt8) : Bool := EM.sm tb0 0 ⟨x.toArray⟩ 0 ⟨y.toArray⟩
theorem ok_tb0 : EM.Ok tb0 := ⟨by simp [EM.Ups, tb0], by decide, by decide, (fun x b h => nomatch h), (fun p h => nomatch h)⟩
theorem nms_three : ∀ {lits : List (List UInt8)} {dots x : List UInt8}, MM.nms lits dots x = 3 → x ∈ lits := by
  intro lits dots x h
  have : ∀ (l : List (List UInt8)) (S : MM.NM), S x ≠ 3 → (l.foldl (fun S b => MM.put S b 3) S) x = 3 → x ∈ l := by
    intro l
    induction l with
    | nil => intro S h1 h2; exact absurd h2 h1
    | cons b r ih =>
      intro S h1 h2
      by_cases e : x = b
      · exact e ▸ List.mem_cons_self
      · exact List.mem_cons_of_mem _ (ih _ (by simp only [MM.put]; rw [if_neg e]; exact h1) h2)
  refine this lits _ ?_ h
  simp only [MM.base, MM.put]
  split
  · decide
  · split <;> decide
theorem qok_fresh (w : World) (p : Nat) (D : Nat → Prop) (h : Tw w p D tb0) (lits : List (List UInt8)) (dots : List UInt8) (hs : ∀ x ∈ lits, x.length ≤ 100) : QOk w (.pointer (some ⟨p, 0, none⟩)) 0 0 (MM.nms lits dots) Q0 := by
  intro w' x y hb hx hy
  have hx1 := hs x (nms_three hx)
  have hT : Tw w' p D tb0 := h.below hb
  by_cases hl : y.length ≤ 1000
  · exact same_any p D tb0 ok_tb0 0 0 ⟨x.toArray⟩ ⟨y.toArray⟩ (by show x.toArray.size ≤ 1000; simp; omega) (by show y.toArray.size ≤ 1000; simp; omega) w' hT
  · exact same_long p D 0 0 ⟨x.toArray⟩ ⟨y.toArray⟩ (by show x.toArray.size ≤ 1000; simp; omega) (by show 1000 < y.toArray.size; simp; omega) (by show y.toArray.size ≤ maxLen; simpa using hy) w' hT
end Go.Proofs.YtbomodendobnkaaGreat

/- What package lex gives: Next, and All. -/
namespace Go.Proofs.YtbomodendobnkaaGreat
open Go.ChangeShapes Go.WideShapes Go.ChangeAt Go.RowKit

theorem nxv_yes {X : LM.Nx} {a : Nat} (h : X.t.e = 0) : nxv X a = .tuple #[.agg #[.int .i64 X.t.k, .int .i64 X.t.n, .string ⟨X.t.s.toArray⟩, .int .i64 X.line, .int .i64 X.col, .int .i64 (a + X.len : Nat)], .nilIface] := by
  unfold nxv; rw [if_pos h]
theorem nxv_no {X : LM.Nx} {a : Nat} (h : X.t.e ≠ 0) : nxv X a = .tuple #[.agg #[.int .i64 0, .int .i64 0, .string ⟨#[]⟩, .int .i64 0, .int .i64 0, .int .i64 0], .iface 157 (.agg #[.int .i64 X.line, .int .i64 X.col, .iface 47 (.int .i64 X.t.e)])] := by
  unfold nxv; rw [if_neg h]

/-- a place that is none -/
def noplace (s : ByteArray) (a line col : Int) : Prop := a < 0 ∨ (s.size : Int) < a ∨ ¬ (1 ≤ line ∧ line ≤ 1073741824) ∨ ¬ (1 ≤ col ∧ col ≤ 1073741824)
theorem Next_no (s : ByteArray) (a line col : Int) (h : noplace s a line col) (w : World) :
    Calls Tryz.prog 61 #[.string s, .int .i64 a, .int .i64 line, .int .i64 col] w fun e w' => e = .returned (.tuple #[.agg #[.int .i64 0, .int .i64 0, .string ⟨#[]⟩, .int .i64 0, .int .i64 0, .int .i64 0], .iface 47 (.int .i64 3)]) ∧ Went w w' := by
  by_cases h1 : a < 0
  · go_enter Tryz.func61, Tryz.ntmps61
    go_wp2
    exact bodyPost_ret (v := .tuple #[.agg #[.int .i64 0, .int .i64 0, .string ⟨#[]⟩, .int .i64 0, .int .i64 0, .int .i64 0], .iface 47 (.int .i64 3)]) (by simp [results, Tryz.results61, go_sem]) rfl ⟨rfl, (Below.refl _ _).alloc (Nat.le_refl _) _⟩
  by_cases h2 : (s.size : Int) < a
  · go_enter Tryz.func61, Tryz.ntmps61
    go_wp2
    exact bodyPost_ret (v := .tuple #[.agg #[.int .i64 0, .int .i64 0, .string ⟨#[]⟩, .int .i64 0, .int .i64 0, .int .i64 0], .iface 47 (.int .i64 3)]) (by simp [results, Tryz.results61, go_sem]) rfl ⟨rfl, (Below.refl _ _).alloc (Nat.le_refl _) _⟩
  have c3 := isCount_any line
  have c4 := isCount_any col
  by_cases h3 : 1 ≤ line ∧ line ≤ 1073741824
  · rw [decide_eq_true h3] at c3
    have h4 : ¬ (1 ≤ col ∧ col ≤ 1073741824) := by
      rcases h with h | h | h | h
      · exact absurd h h1
      · exact absurd h h2
      · exact absurd h3 h
      · exact h
    rw [decide_eq_false h4] at c4
    have d3 := Lib.hid c3
    have d4 := Lib.hid c4
    clear c3 c4 h3 h4 h
    go_enter Tryz.func61, Tryz.ntmps61
    go_wp2_with (first
      | (go_at_call 74; (with_reducible refine (d3.out _).mono ?_); rintro e w' ⟨rfl, rfl⟩)
      | (go_at_call 74; (with_reducible refine (d4.out _).mono ?_); rintro e w' ⟨rfl, rfl⟩))
    exact bodyPost_ret (v := .tuple #[.agg #[.int .i64 0, .int .i64 0, .string ⟨#[]⟩, .int .i64 0, .int .i64 0, .int .i64 0], .iface 47 (.int .i64 3)]) (by simp [results, Tryz.results61, go_sem]) rfl ⟨rfl, (Below.refl _ _).alloc (Nat.le_refl _) _⟩
  · rw [decide_eq_false h3] at c3
    have d3 := Lib.hid c3
    clear c3 c4 h3 h
    go_enter Tryz.func61, Tryz.ntmps61
    go_wp2_with (go_at_call 74; refine (d3.out _).mono ?_; rintro e w' ⟨rfl, rfl⟩)
    exact bodyPost_ret (v := .tuple #[.agg #[.int .i64 0, .int .i64 0, .string ⟨#[]⟩, .int .i64 0, .int .i64 0, .int .i64 0], .iface 47 (.int .i64 3)]) (by simp [results, Tryz.results61, go_sem]) rfl ⟨rfl, (Below.refl _ _).alloc (Nat.le_refl _) _⟩

theorem Next_any (s : ByteArray) (hs : s.size ≤ 281474976710000) (a : Nat) (ha : a ≤ s.size) (line col : Int) (hl : 1 ≤ line ∧ line ≤ 1073741824) (hc : 1 ≤ col ∧ col ≤ 1073741824) (w : World) :
    Calls Tryz.prog 61 #[.string s, .int .i64 (a : Nat), .int .i64 line, .int .i64 col] w fun e w' => e = .returned (nxv (LM.nx (s.data.toList.drop a) line col) a) ∧ Went w w' := by
  have c3 := isCount_any line
  have c4 := isCount_any col
  rw [decide_eq_true hl] at c3
  rw [decide_eq_true hc] at c4
  have hN := next_any s hs a ha line col (by omega) (by omega) (by omega) (by omega)
  generalize LM.nx (s.data.toList.drop a) line col = X at *
  have d3 := Lib.hid c3
  have d4 := Lib.hid c4
  clear c3 c4 hl hc
  by_cases he : X.t.e = 0
  · rw [nxv_yes he] at hN ⊢
    have hN' := Lib.hid hN
    clear hN he
    go_enter Tryz.func61, Tryz.ntmps61
    go_wp2_with (first
      | (go_at_call 74; (with_reducible refine (d3.out _).mono ?_); rintro e w' ⟨rfl, rfl⟩)
      | (go_at_call 74; (with_reducible refine (d4.out _).mono ?_); rintro e w' ⟨rfl, rfl⟩)
      | (go_at_call 75; refine (hN'.out _).mono ?_; rintro e w1 ⟨rfl, hb⟩; obtain ⟨hc, hf⟩ := bcell hb))
    exact bodyPost_ret (v := .tuple #[.agg #[.int .i64 X.t.k, .int .i64 X.t.n, .string ⟨X.t.s.toArray⟩, .int .i64 X.line, .int .i64 X.col, .int .i64 (a + X.len : Nat)], .nilIface]) (by simp [results, Tryz.results61, go_sem, hc]) rfl ⟨rfl, below_six (below_new hb) (Nat.le_refl _) _ _ _ _ _ _⟩
  · rw [nxv_no he] at hN ⊢
    have hN' := Lib.hid hN
    clear hN he
    go_enter Tryz.func61, Tryz.ntmps61
    go_wp2_with (first
      | (go_at_call 74; (with_reducible refine (d3.out _).mono ?_); rintro e w' ⟨rfl, rfl⟩)
      | (go_at_call 74; (with_reducible refine (d4.out _).mono ?_); rintro e w' ⟨rfl, rfl⟩)
      | (go_at_call 75; refine (hN'.out _).mono ?_; rintro e w1 ⟨rfl, hb⟩; obtain ⟨hc, hf⟩ := bcell hb))
    exact bodyPost_ret (v := .tuple #[.agg #[.int .i64 0, .int .i64 0, .string ⟨#[]⟩, .int .i64 0, .int .i64 0, .int .i64 0], .iface 157 (.agg #[.int .i64 X.line, .int .i64 X.col, .iface 47 (.int .i64 X.t.e)])]) (by simp [results, Tryz.results61, go_sem, hc]) rfl ⟨rfl, below_six (below_new hb) (Nat.le_refl _) _ _ _ _ _ _⟩
end Go.Proofs.YtbomodendobnkaaGreat

/- What package lex gives of a whole text. -/
namespace Go.Proofs.YtbomodendobnkaaGreat
open Go.ChangeShapes Go.WideShapes Go.ChangeAt Go.RowKit

namespace LM
def glue (out : List Tv) (X : List Tv × (Int × Int × Int)) : List Tv × (Int × Int × Int) := if X.2.1 ≠ 0 then ([], X.2) else (out ++ X.1, X.2)
theorem alls_bad {f : Nat} {l : List UInt8} {a : Nat} {i j : Int} (out : List Tv) (hf : 0 < f) (h : (nx l i j).t.e ≠ 0) : glue out (alls f l a i j) = ([], ((nx l i j).t.e, (nx l i j).line, (nx l i j).col)) := by
  obtain ⟨g, rfl⟩ : ∃ g, f = g + 1 := ⟨f - 1, by omega⟩
  unfold alls; rw [if_pos h]; unfold glue; rw [if_pos h]
theorem alls_end {f : Nat} {l : List UInt8} {a : Nat} {i j : Int} (out : List Tv) (hf : 0 < f) (h : (nx l i j).t.e = 0) (hk : (nx l i j).t.k = 14) : glue out (alls f l a i j) = (out, (0, 0, 0)) := by
  obtain ⟨g, rfl⟩ : ∃ g, f = g + 1 := ⟨f - 1, by omega⟩
  unfold alls; rw [if_neg (by simp [h]), if_pos hk]; unfold glue; rw [if_neg (by simp)]; simp
theorem alls_go {f : Nat} {l : List UInt8} {a : Nat} {i j : Int} (out : List Tv) (h : (nx l i j).t.e = 0) (hk : (nx l i j).t.k ≠ 14) :
    glue out (alls (f + 1) l a i j) = glue (out ++ [tvo (nx l i j) a]) (alls f (l.drop (nx l i j).len) (a + (nx l i j).len) (mv (l.take (nx l i j).len) i j).1 (mv (l.take (nx l i j).len) i j).2) := by
  conv => lhs; unfold alls
  rw [if_neg (by simp [h]), if_neg hk]
  simp only
  generalize alls f (l.drop (nx l i j).len) (a + (nx l i j).len) (mv (l.take (nx l i j).len) i j).1 (mv (l.take (nx l i j).len) i j).2 = R
  unfold glue
  by_cases hR : R.2.1 = 0
  · rw [if_neg (c := R.2.1 ≠ 0) (by simp [hR])]
    simp [hR]
  · rw [if_pos (c := R.2.1 ≠ 0) hR]
    simp [hR]
theorem glue_nil (X : List Tv × (Int × Int × Int)) (h : X.2.1 ≠ 0 → X.1 = []) : glue [] X = X := by
  unfold glue
  split
  · rename_i hx; rw [← h hx]
  · simp
theorem alls_none (f : Nat) (l : List UInt8) (a : Nat) (i j : Int) : (alls f l a i j).2.1 ≠ 0 → (alls f l a i j).1 = [] := by
  cases f with
  | zero => intro h; rfl
  | succ f =>
    unfold alls
    split
    · intro; rfl
    · split
      · intro; rfl
      · simp only
        split
        · intro; rfl
        · rename_i h; intro h2; exact absurd h2 (by simpa using h)
end LM

theorem own_two (w : World) (o : Obj) (t : TypeId) (cs : Array Value) (hs : cs.size = 6 := by rfl) : ((w.alloc o).alloc (.cells cs t)).ownsRow (w.heap.size + 1) t 6 (.slice (some ⟨w.heap.size + 1, 0, none⟩) 1 1) 1 cs.toList := by
  have := own_one (e := t) (sz := 6) (B := w.heap.size + 1) (w.alloc o) cs hs (by simp)
  rwa [show (w.alloc o).heap.size = w.heap.size + 1 by simp] at this
/-- an error with its place, or none -/
def aer (p : Int × Int × Int) : Value := if p.1 = 0 then .nilIface else .iface 157 (.agg #[.int .i64 p.2.1, .int .i64 p.2.2, .iface 47 (.int .i64 p.1)])
theorem aer_no {e i j : Int} (h : e ≠ 0) : aer (e, i, j) = .iface 157 (.agg #[.int .i64 i, .int .i64 j, .iface 47 (.int .i64 e)]) := by unfold aer; rw [if_neg h]

def tvv (X : LM.Nx) (n : Nat) : Array Value := #[.int .i64 X.t.k, .int .i64 X.t.n, .string ⟨X.t.s.toArray⟩, .int .i64 X.line, .int .i64 X.col, .int .i64 (n : Nat)]

end Go.Proofs.YtbomodendobnkaaGreat
