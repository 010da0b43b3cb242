/- What package read finds right: fields, kinds, parts, and the whole. -/
import Derived.Test.YthfelkcomhflnaaDoorQ14
import Derived.Test.YthfelkcomhflnaaDoorQ19
import Derived.Test.YthfelkcomhflnaaDoorQ21
namespace Go.Proofs.YthfelkcomhflnaaDoor
open Go.ChangeShapes Go.WideShapes Go.ChangeAt Go.RowKit

namespace SM
def nm (k n : Int) : Bool := if k = 1 then decide (-1152921504606846976 ≤ n ∧ n ≤ 1152921504606846975) else if k = 2 then decide (n = 0 ∨ n = 1) else decide (0 ≤ n ∧ n ≤ 255)
def tx (k : Int) (s : List UInt8) : Bool := if k = 5 then LM.sym s else decide (s.length ≤ 500)
def dt (is : RM.Dl) : Bool := decide (2 ≤ is.len) && decide (lastk is ≠ 6 ∧ lastk is ≠ 7)
/-- all of a row are right, and not too deep, the row being so many within others -/
def rt (D : Int) (d : RM.Dl) : Bool := decide ((hi d : Int) + D ≤ 64) && rgt d
def ro (D : Int) (x : RM.Dm) : Bool := kd x.k x.n x.s x.is && rt D x.is
theorem rt_at {D : Int} {d : RM.Dl} {i : Nat} {x : RM.Dm} (h : d.at_ i = some x) : rt D (dr d i) = (ro (D + 1) x && rt D (dr d (i + 1))) := by
  unfold rt ro
  rw [hi_at h, dr_at d i x h]
  show (decide _ && (kd x.k x.n x.s x.is && rgt x.is && rgt (dr d (i + 1)))) = _
  unfold rt
  cases kd x.k x.n x.s x.is <;> cases rgt x.is <;> cases rgt (dr d (i + 1)) <;> simp
  rw [← Bool.decide_and]
  congr 1
  simp only [eq_iff_iff]
  omega
theorem rt_end (D : Int) : rt D .nil = decide (D ≤ 64) := by simp [rt, rgt, hi]
end SM
theorem sym_any (S : ByteArray) (w : World) :
    Calls Tryd.prog 38 #[.string S] w fun e w' => e = .returned (.bool (LM.sym S.data.toList)) ∧ w = w' := by
  by_cases h2 : 60 < S.size
  · obtain ⟨e1, e3⟩ := empty_no (s := S) (by omega)
    rw [sym_short (.inr (.inl h2))]
    go_enter Tryd.func38, Tryd.ntmps38
    go_wp2
    go_ret
    exact ⟨rfl, rfl⟩
  · exact Symbol_any S (by omega) w
theorem rsym_any (S : ByteArray) (w : World) :
    Calls Tryd.prog 44 #[.string S] w fun e w' => e = .returned (.bool (LM.sym S.data.toList)) ∧ w = w' := by
  by_cases h2 : 60 < S.size
  · rw [sym_short (.inr (.inl h2))]
    go_enter Tryd.func44, Tryd.ntmps44
    go_wp2
    go_ret
    exact ⟨rfl, rfl⟩
  · exact rSymbol_any S (by omega) w

section
variable (k n : Int) (S : ByteArray) (A : Option Addr) (N c : Nat) (w : World)
theorem went_box (vs : Array Value) (t : TypeId) : Went w (w.alloc (.cells vs t)) := (Below.refl _ w).alloc (Nat.le_refl _) _
set_option maxRecDepth 100000 in
theorem isNumber_dat : Calls Tryd.prog 72 #[.agg #[.int .i64 k, .int .i64 n, .string S, .slice A N c]] w fun e w' => e = .returned (.bool (SM.nm k n)) ∧ Went w w' := by
  by_cases h1 : k = 1
  · subst h1
    by_cases h2 : -1152921504606846976 ≤ n <;> by_cases h3 : n ≤ 1152921504606846975
    all_goals
      first
        | (exfalso; omega)
        | (go_enter Tryd.func72, Tryd.ntmps72
           go_wp2_with fail
           go_ret
           exact ⟨ret_b (by simp [SM.nm, h2, h3]), went_box _ _ _⟩)
  · by_cases h2 : k = 2
    · subst h2
      by_cases h2 : n = 0 <;> by_cases h3 : n = 1
      all_goals
        first
          | (exfalso; omega)
          | (go_enter Tryd.func72, Tryd.ntmps72
             go_wp2_with fail
             go_ret
             exact ⟨ret_b (by simp [SM.nm, h2, h3]), went_box _ _ _⟩)
    · by_cases h4 : 0 ≤ n <;> by_cases h3 : n ≤ 255
      all_goals
        first
          | (exfalso; omega)
          | (go_enter Tryd.func72, Tryd.ntmps72
             go_wp2_with fail
             go_ret
             exact ⟨ret_b (by simp [SM.nm, h1, h2, h3, h4]), went_box _ _ _⟩)
set_option maxRecDepth 100000 in
theorem isText_dat : Calls Tryd.prog 73 #[.agg #[.int .i64 k, .int .i64 n, .string S, .slice A N c]] w fun e w' => e = .returned (.bool (SM.tx k S.data.toList)) ∧ Went w w' := by
  have hb := went_box w #[.int .i64 k, .int .i64 n, .string S, .slice A N c] 42
  by_cases h1 : k = 5
  · subst h1
    have hs := Lib.hid (sym_any S)
    go_enter Tryd.func73, Tryd.ntmps73
    go_wp2_with (go_at_call 38; refine (hs.out _).mono ?_; rintro e w' ⟨rfl, rfl⟩)
    go_ret
    exact ⟨ret_b (by simp [SM.tx]), hb⟩
  · by_cases h2 : S.size ≤ 500
    all_goals
      go_enter Tryd.func73, Tryd.ntmps73
      go_wp2_with fail
      go_ret
      exact ⟨ret_b (by simp [SM.tx, h1]; omega), hb⟩
end
set_option maxRecDepth 100000 in
theorem isDotted_dat (w : World) (A : Option Addr) (c : Nat) (is : RM.Dl) (h : In w (.slice A is.len c) is) :
    Calls Tryd.prog 74 #[.slice A is.len c] w fun e w' => e = .returned (.bool (SM.dt is)) ∧ w = w' := by
  have hlen := h.len
  by_cases h2 : is.len < 2
  · have hf : SM.dt is = false := by simp [SM.dt]; omega
    rw [hf]
    obtain ⟨N, hN⟩ : ∃ N, is.len = N := ⟨_, rfl⟩
    rw [hN] at h2 hlen ⊢
    clear hN h
    go_enter Tryd.func74, Tryd.ntmps74
    go_wp2_with fail
    go_ret
    exact ⟨rfl, rfl⟩
  · obtain ⟨x, hx⟩ := is.at_some (is.len - 1) (by omega)
    obtain ⟨b, o, B, q, rfl, hb0, p0, -, -, -, -⟩ := h.at_ hx
    have hd : SM.dt is = decide (x.k ≠ 6 ∧ x.k ≠ 7) := by
      unfold SM.dt
      rw [SM.lastk_at is x hx, decide_eq_true (by omega : 2 ≤ is.len), Bool.true_and]
    rw [hd]
    obtain ⟨N, hN⟩ : ∃ N, is.len = N := ⟨_, rfl⟩
    rw [hN] at h2 hlen p0 ⊢
    obtain ⟨M, rfl⟩ : ∃ M, N = M + 1 := ⟨N - 1, by omega⟩
    rw [Nat.add_sub_cancel] at p0
    clear hd hx h hN
    obtain ⟨K, hK⟩ : ∃ K, x.k = K := ⟨_, rfl⟩
    rw [hK] at p0 ⊢
    clear hK
    have hw : wrap64 (M : Int) = M := by unfold wrap64; omega
    by_cases h6 : K = 6 <;> by_cases h7 : K = 7
    all_goals
      first
        | (exfalso; omega)
        | (go_enter Tryd.func74, Tryd.ntmps74
           go_wp2_with fail
           go_ret
           exact ⟨ret_b (by simp [h6, h7]), rfl⟩)
end Go.Proofs.YthfelkcomhflnaaDoor
