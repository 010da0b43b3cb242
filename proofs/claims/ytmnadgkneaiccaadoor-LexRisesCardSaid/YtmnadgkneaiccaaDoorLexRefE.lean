/- What the document's own answer for layer 7 is on what begins with a sharp. -/
import Derived.Test.YtmnadgkneaiccaaDoorLexRefD
namespace Go.Proofs.YtmnadgkneaiccaaDoor
open Go.ChangeShapes Go.WideShapes Go.ChangeAt Go.RowKit

theorem below4 (w : World) (o1 o2 o3 o4 : Obj) : Below w.heap.size w ((((w.alloc o1).alloc o2).alloc o3).alloc o4) := (below3 w o1 o2 o3).alloc (by simp; omega) o4
theorem rv_bad (e line col : Int) (a : Nat) (he : e ≠ 0) : rv (LM.bad e) line col a = .tuple #[.agg #[.int .i64 0, .int .i64 0, .string ⟨#[]⟩, .int .i64 0, .int .i64 0, .int .i64 0], .agg #[.int .i64 e, .int .i64 line, .int .i64 col]] := by
  show (if e = 0 then _ else _) = _
  rw [if_neg he]; rfl
theorem rv_tok (k n : Int) (s : List UInt8) (len : Nat) (line col : Int) (a : Nat) : rv (LM.tok k n s len) line col a = .tuple #[.agg #[.int .i64 k, .int .i64 n, .string ⟨s.toArray⟩, .int .i64 line, .int .i64 col, .int .i64 (a + len : Nat)], .agg #[.int .i64 0, .int .i64 0, .int .i64 0]] := by
  show (if (0 : Int) = 0 then _ else _) = _
  rw [if_pos rfl]; rfl

section
variable (s : ByteArray) (hs : s.size ≤ 281474976710000) (a : Nat) (line col : Int) (w : World)
include hs
set_option maxRecDepth 100000 in
set_option maxHeartbeats 2000000 in
theorem rsharp_alone (ha : a < s.size) (h1 : s.size ≤ a + 1) :
    Calls Tryd.prog 23 #[.string s, .int .i64 (a : Nat), t0 line col a] w fun e w' => e = .returned (rv (LM.bad 6) line col a) ∧ Went w w' := by
  rw [rv_bad _ _ _ _ (by omega)]
  unfold t0
  go_enter Tryd.func23, Tryd.ntmps23
  go_wp2
  go_region_with (fail)
  all_goals
    go_wp2_with fail
    exact bodyPost_ret (v := .tuple #[.agg #[.int .i64 0, .int .i64 0, .string ⟨#[]⟩, .int .i64 0, .int .i64 0, .int .i64 0], .agg #[.int .i64 6, .int .i64 line, .int .i64 col]]) (by simp [results, Tryd.results23, go_sem]) rfl ⟨rfl, below_drewN (below4 w _ _ _ _) 1⟩

set_option maxRecDepth 100000 in
set_option maxHeartbeats 2000000 in
theorem rsharp_flag (h1 : a + 1 < s.size) (d : Int) (hd : (s[a + 1].toNat : Int) = d) (hd2 : d = 116 ∨ d = 102) (hen : LM.en (s.data.toList.drop (a + 2)) = true) :
    Calls Tryd.prog 23 #[.string s, .int .i64 (a : Nat), t0 line col a] w fun e w' => e = .returned (rv (LM.tok 10 (if d = 116 then 1 else 0) [] 2) line col a) ∧ Went w w' := by
  rw [rv_tok]
  unfold t0
  have hE := rends_any s (a + 2)
  rw [hen] at hE
  have hE' := Lib.hid hE
  clear hE
  rcases hd2 with rfl | rfl
  · rw [if_pos rfl]
    go_enter Tryd.func23, Tryd.ntmps23
    go_wp2_with (go_at_call 34; refine (hE'.out _).mono ?_; rintro e w' ⟨rfl, rfl⟩)
    exact bodyPost_ret (v := .tuple #[.agg #[.int .i64 10, .int .i64 1, .string ⟨#[]⟩, .int .i64 line, .int .i64 col, .int .i64 ((a : Nat) + 2 : Int)], .agg #[.int .i64 0, .int .i64 0, .int .i64 0]]) (by simp [results, Tryd.results23, go_sem]) rfl ⟨rfl, below4 w _ _ _ _⟩
  · rw [if_neg (by decide)]
    go_enter Tryd.func23, Tryd.ntmps23
    go_wp2_with (go_at_call 34; refine (hE'.out _).mono ?_; rintro e w' ⟨rfl, rfl⟩)
    exact bodyPost_ret (v := .tuple #[.agg #[.int .i64 10, .int .i64 0, .string ⟨#[]⟩, .int .i64 line, .int .i64 col, .int .i64 ((a : Nat) + 2 : Int)], .agg #[.int .i64 0, .int .i64 0, .int .i64 0]]) (by simp [results, Tryd.results23, go_sem]) rfl ⟨rfl, below4 w _ _ _ _⟩

set_option maxRecDepth 100000 in
set_option maxHeartbeats 2000000 in
theorem rsharp_nothing (h1 : a + 1 < s.size) (d : Int) (hd : (s[a + 1].toNat : Int) = d) (hd2 : (d != 92) = true) (b : Bool) (hen : LM.en (s.data.toList.drop (a + 2)) = b) (hb : ((d == 116) = false ∧ (d == 102) = false) ∨ (d = 116 ∧ b = false) ∨ (d = 102 ∧ b = false)) :
    Calls Tryd.prog 23 #[.string s, .int .i64 (a : Nat), t0 line col a] w fun e w' => e = .returned (rv (LM.bad 6) line col a) ∧ Went w w' := by
  rw [rv_bad _ _ _ _ (by omega)]
  unfold t0
  have hE := rends_any s (a + 2)
  rw [hen] at hE
  have hE' := Lib.hid hE
  clear hE hen
  rcases hb with ⟨x1, x2⟩ | ⟨rfl, rfl⟩ | ⟨rfl, rfl⟩
  all_goals
    go_enter Tryd.func23, Tryd.ntmps23
    go_wp2_with (go_at_call 34; refine (hE'.out _).mono ?_; rintro e w' ⟨rfl, rfl⟩)
    go_region_with (fail)
  all_goals
    go_wp2_with fail
    exact bodyPost_ret (v := .tuple #[.agg #[.int .i64 0, .int .i64 0, .string ⟨#[]⟩, .int .i64 0, .int .i64 0, .int .i64 0], .agg #[.int .i64 6, .int .i64 line, .int .i64 col]]) (by simp [results, Tryd.results23, go_sem]) rfl ⟨rfl, below_drewN (below4 w _ _ _ _) 1⟩

set_option maxRecDepth 100000 in
set_option maxHeartbeats 2000000 in
theorem rsharp_one (h1 : a + 1 < s.size) (hd : (s[a + 1].toNat : Int) = 92) (h2 : a + 2 < s.size) (hc : (32 : Int) < s[a + 2].toNat) (hen : LM.en (s.data.toList.drop (a + 3)) = true) :
    Calls Tryd.prog 23 #[.string s, .int .i64 (a : Nat), t0 line col a] w fun e w' => e = .returned (rv (LM.tok 11 s[a + 2].toNat [] 3) line col a) ∧ Went w w' := by
  rw [rv_tok]
  unfold t0
  have hE := rends_any s (a + 3)
  rw [hen] at hE
  have hE' := Lib.hid hE
  clear hE hen
  have hw : wrap64 (s[a + 2].toNat : Int) = (s[a + 2].toNat : Int) := FM.wrap_in _ (by omega) (by have := s[a + 2].toNat_lt; omega)
  have hw' := Lib.hid hw
  clear hw
  obtain ⟨x, hx⟩ : ∃ x : Int, (s[a + 2].toNat : Int) = x := ⟨_, rfl⟩
  rw [hx] at hw' hc ⊢
  go_enter Tryd.func23, Tryd.ntmps23
  go_wp2_with (go_at_call 34; refine (hE'.out _).mono ?_; rintro e w' ⟨rfl, rfl⟩)
  exact bodyPost_ret (v := .tuple #[.agg #[.int .i64 11, .int .i64 (wrap64 x), .string ⟨#[]⟩, .int .i64 line, .int .i64 col, .int .i64 ((a : Nat) + 3 : Int)], .agg #[.int .i64 0, .int .i64 0, .int .i64 0]]) (by simp [results, Tryd.results23, go_sem]) rfl ⟨by rw [hw'.out]; rfl, below4 w _ _ _ _⟩
end
end Go.Proofs.YtmnadgkneaiccaaDoor
